/- The contracts of inode.Size and Remove. -/
import Derived.Test.YtjjhfginmamlkaaGreatInM
namespace Go.Proofs.YtjjhfginmamlkaaGreat
open Go.RowKit Go.Maps
set_option linter.unusedVariables false
set_option linter.unusedSimpArgs false
set_option maxRecDepth 100000

def sizeR (s : Sg) (ino : Int) : Sg × Int × Int := if (fdR s ino).2 ≠ 0 then (s, 0, (fdR s ino).2) else ({ s with R := addK s.R ino [3] }, (fdR s ino).1.s, 0)

set_option maxHeartbeats 4000000 in
theorem size_in {B : Nat} {w : World} {a : Sa} {X : List Nat} {s : Sg} (h : SgIn B w a X s) (ino : Int) (h0 : 0 ≤ ino) (h1 : ino ≤ 4294967295) (hL : s.R.length ≤ 18000) : Calls Tryz.prog 18 #[.pointer (some ⟨a.s, 0, none⟩), .int .u32 ino] w fun e w' =>
    e = .returned (.tuple #[.int .i64 (sizeR s ino).2.1, .int .i64 (sizeR s ino).2.2]) ∧ SgOut B w a X (sizeR s ino).1 w' := by
  have cf := find_in h ino h0 h1
  have HF : Hid (sizeR s ino = if (fdR s ino).2 ≠ 0 then (s, 0, (fdR s ino).2) else ({ s with R := addK s.R ino [3] }, (fdR s ino).1.s, 0)) := rfl
  generalize sizeR s ino = R at *
  generalize fdR s ino = F at *
  obtain ⟨⟨fk, fm, fl, fz⟩, fe⟩ := F
  unfold inV at cf
  dsimp only at cf HF ⊢
  go_enter Tryz.func18, Tryz.ntmps18
  go_wp2_with fail
  refine cf.mono ?_
  rintro e w2 ⟨rfl, hb2⟩
  clear cf
  have hb3 := bel1 w2 (.cells #[.int .i64 fk, .int .i64 fm, .int .i64 fl, .int .i64 fz] 89)
  have hi3 : InRow (w2.alloc (.cells #[.int .i64 fk, .int .i64 fm, .int .i64 fl, .int .i64 fz] 89)) w2.heap.size fk fm fl fz := ⟨heap_alloc_new w2 _⟩
  obtain ⟨w3, hw3⟩ : ∃ w3, w2.alloc (.cells #[.int .i64 fk, .int .i64 fm, .int .i64 fl, .int .i64 fz] 89) = w3 := ⟨_, rfl⟩
  rw [hw3] at hb3 hi3
  have hB3 := thenB hb2 hb3
  have h3 := h.below hB3
  have c1 := h3.c1
  have HLE : Hid (w.heap.size ≤ w2.heap.size) := hb2.size
  by_cases he : fe = 0
  case neg =>
    have heb : (fe != 0) = true := by simpa using he
    have HE : Hid (R = (s, 0, fe)) := by unfold Hid; rw [HF.out, if_pos he]
    have HH : Hid (SgIn B w a X s) := h
    clear HF h3 h hi3
    go_wp2
    go_ret2
    exact ⟨by rw [HE.out]; first | done | rfl, by rw [HE.out]; exact HH.out.out hB3⟩
  subst he
  have HE : Hid (R = ({ s with R := addK s.R ino [3] }, fz, 0)) := by unfold Hid; rw [HF.out, if_neg (by simp)]
  have hb4 := bel1 w3 (.cells #[.int .i64 3] 3)
  have hk4 : RdKs (w3.alloc (.cells #[.int .i64 3] 3)) (.slice (some ⟨w3.heap.size, 0, none⟩) 1 1) [3] := rdKs_lit w3 [3]
  obtain ⟨w4, hw4⟩ : ∃ w4, w3.alloc (.cells #[.int .i64 3] 3) = w4 := ⟨_, rfl⟩
  rw [hw4] at hb4 hk4
  have ct := (h3.below hb4).touchR ino h0 h1 _ _ _ _ hk4 (by intro k hk; simp at hk; omega) (by decide) hL
  have HX : Hid (∀ k ∈ X, k < w.heap.size) := h.lt
  have HI4 : Hid (InRow w4 w2.heap.size fk fm fl fz) := hi3.below hb4
  have HB4 : Hid (Below w.heap.size w w4) := thenB hB3 hb4
  clear HF h3 h hi3 hb2 hb3 hb4 hB3 hk4
  go_wp2_with fail
  refine ct.mono ?_
  rintro e w5 ⟨rfl, ho⟩
  clear ct c1
  have hi5 := HI4.out.sole ho.sole (fun e => by have := HX.out _ e; have := HLE.out; omega)
  have i3 := hi5.cell 3 _ rfl
  have HO : Hid (SgOut B w4 a X { s with R := addK s.R ino [3] } w5) := ho
  clear ho hi5
  go_wp2
  go_ret2
  exact ⟨by rw [HE.out]; first | done | rfl, by rw [HE.out]; exact SgOut.pre HB4.out HO.out⟩

/-! ### Remove -/

def goneE (s : Sg) (p : Pl) : Int := (putX s.d (goneC p)).2
def gone1 (s : Sg) (p : Pl) : Sg := { s with d := putS s.d (goneC p) }
def goneL : Sg → List Pl → Sg × Int
  | s, [] => (s, 0)
  | s, p :: ps => if goneE s p ≠ 0 then (gone1 s p, goneE s p) else goneL (gone1 s p) ps
def rmB (s : Sg) (ino : Int) (i : In4) : Sg := if i.k = 1 then { s with R := addK s.R ino [3] } else s
def rmE (g : Sg × Int) (ino : Int) : Sg × Int := if g.2 ≠ 0 then g else ({ g.1 with U := addK g.1.U ino [7] }, 0)
def rmF (s : Sg) (ino : Int) (F : In4 × Int) : Sg × Int := if F.2 ≠ 0 then (s, F.2) else rmE (goneL (rmB s ino F.1) (placesL ino F.1)) ino
def rmR (s : Sg) (ino : Int) : Sg × Int := rmF s ino (fdR s ino)
theorem gone_ok {p : Pl} (h : PlOk p) : CgOk (goneC p) := ⟨h, by simp only [goneC]; omega, by simp only [goneC]; omega, by constructor <;> (simp only [goneC]; omega), by simp [goneC], by simp [goneC], pt0_ok⟩
theorem datP_ok {ino : Int} (h0 : 0 ≤ ino) (h1 : ino ≤ 4294967295) {c : Nat} (hc : c ≤ 4294967295) : PlOk (datP ino c) := ⟨h0, h1, by simp [datP], by simp [datP], Nat.zero_le _, by simp only [datP]; omega, by simp only [datP]; omega⟩
theorem placesL_ok {ino : Int} (h0 : 0 ≤ ino) (h1 : ino ≤ 4294967295) {i : In4} (hs : i.s ≤ 512) : ∀ p ∈ placesL ino i, PlOk p := by
  intro p hp
  unfold placesL chunksL at hp
  rcases List.mem_cons.1 hp with rfl | hp
  · exact recP_ok h0 h1
  · obtain ⟨k, hk, rfl⟩ := List.mem_map.1 hp
    rw [List.mem_range] at hk
    refine datP_ok h0 h1 ?_
    split at hk <;> omega
theorem placesL_len {ino : Int} {i : In4} (hs : i.s ≤ 512) : (placesL ino i).length ≤ 17 := by
  unfold placesL
  rw [chunksL_len]
  split <;> omega
theorem placesL_pos (ino : Int) (i : In4) : 0 < (placesL ino i).length := by
  unfold placesL
  rw [chunksL_len]
  omega
theorem RdZ.sole {α : Type} {k : Nat} {enc : α → List Value} {w w' : World} {X : List Nat} {b off n c : Nat} {l : List α} (h : RdZ k enc w (.slice (some ⟨b, off, none⟩) n c) l) (hs : Sole X w w') (hb : b ∉ X) : RdZ k enc w' (.slice (some ⟨b, off, none⟩) n c) l := by
  obtain ⟨⟨a, cap, e, h1, h2, h3⟩, h4⟩ := h
  simp only [Value.slice.injEq] at e
  obtain ⟨rfl, rfl, rfl⟩ := e
  refine ⟨⟨_, _, rfl, h1, h2, fun hn => ?_⟩, h4⟩
  obtain ⟨b', off', e', hlt, hc⟩ := h3 hn
  simp only [Option.some.injEq, Addr.mk.injEq] at e'
  obtain ⟨rfl, rfl, _⟩ := e'
  refine ⟨_, _, rfl, Nat.lt_of_lt_of_le hlt hs.size, fun i x j u hi hj => ?_⟩
  have := hs.block _ hlt hb
  simpa [World.cell?, this] using hc i x j u hi hj
theorem pl_cells {w : World} {b off n c : Nat} {l : List Pl} (h : RdZ 4 plE4 w (.slice (some ⟨b, off, none⟩) n c) l) {i : Nat} {p : Pl} (hx : l[i]? = some p) :
    w.cell? ⟨b, off + i * 4, none⟩ = some (.int .u32 p.ino) ∧ w.cell? ⟨b, off + i * 4 + 1, none⟩ = some (.int .i64 p.part) ∧ w.cell? ⟨b, off + i * 4 + 2, none⟩ = some (.string p.name) ∧ w.cell? ⟨b, off + i * 4 + 3, none⟩ = some (.int .u32 p.chunk) := by
  obtain ⟨⟨a', c', e, h1, h2, h3⟩, _⟩ := h
  simp only [Value.slice.injEq] at e
  obtain ⟨rfl, rfl, rfl⟩ := e
  obtain ⟨b', off', e, hlt, hc⟩ := h3 (by intro e; subst e; simp at hx)
  simp only [Option.some.injEq, Addr.mk.injEq] at e
  obtain ⟨rfl, rfl, _⟩ := e
  exact ⟨hc i p 0 _ hx rfl, hc i p 1 _ hx rfl, hc i p 2 _ hx rfl, hc i p 3 _ hx rfl⟩

end Go.Proofs.YtjjhfginmamlkaaGreat
