/- The contracts of the document's Good, Meets and Forget. -/
import Derived.Test.YtmncjecbgakmfaaRtForget
namespace Go.Proofs.Ytmncjecbgakmfaa
open Go.RowKit
set_option linter.unusedVariables false
set_option linter.unusedSimpArgs false
set_option maxRecDepth 100000

/-- What a version wrote, by the document: its number, its slice, what that reads as. -/
structure Wa where
  ver : Int
  a : Option Addr
  n : Nat
  c : Nat
  l : List Tc
def waE (d : Wa) : List Value := [.int .u64 d.ver, .slice d.a d.n d.c]
theorem wa_len (d : Wa) : (waE d).length = 2 := rfl
theorem wa_one (d : Wa) : ∀ u ∈ waE d, u.oneCell' = true := fun u hu => by
  simp [waE] at hu
  rcases hu with rfl | rfl <;> rfl
def Wa.plain (d : Wa) : Int × List Tc := (d.ver, d.l)
theorem info_wa : (Try.prog.info? 49).map (fun i => (i.zero, i.size, i.bytes)) = some (some (.agg #[.int .u64 0, .slice none 0 0]), 2, 32) := by kernel_rfl
/-- Each reads as it should. -/
def WasIn (w : World) (X : List Wa) : Prop := ∀ x ∈ X, RdZ 5 tcE w (.slice x.a x.n x.c) x.l ∧ x.n ≤ 100
theorem WasIn.below {w w' : World} {X : List Wa} (h : WasIn w X) (hb : Below w.heap.size w w') : WasIn w' X := fun x hx => ⟨(h x hx).1.below hb, (h x hx).2⟩

theorem wa_load {w : World} {a : Option Addr} {n cap : Nat} {l : List Wa} (h : RdZ 2 waE w (.slice a n cap) l) {i : Nat} {x : Wa} (hx : l[i]? = some x) :
    ∃ b off, a = some ⟨b, off, none⟩ ∧ (Instr.loadAt 49 (.pointer (some ⟨b, off + i * 2, none⟩))).run Try.prog w = .ok (.agg #[.int .u64 x.ver, .slice x.a x.n x.c]) w := by
  obtain ⟨⟨a', c, e, h1, h2, h3⟩, _⟩ := h
  simp only [Value.slice.injEq] at e
  obtain ⟨rfl, rfl, rfl⟩ := e
  obtain ⟨b, off, rfl, hlt, hc⟩ := h3 (by intro e; subst e; simp at hx)
  have hr : w.rangeAt b (off + i * 2) (waE x) := fun j u hu => hc i x j u hx hu
  exact ⟨b, off, rfl, run_loadAt_mid (P := Try.prog) w b (off + i * 2) 49 _ _ hr Try.underlying49 rfl (by kernel_rfl)⟩

set_option maxHeartbeats 8000000 in
theorem rgood_any {w : World} (ax : Option Addr) (nx cx : Nat) (X : List Wa) (hX : RdZ 2 waE w (.slice ax nx cx) X) (hnx : nx ≤ 1000) (ver : Int) (a : Option Addr) (n c : Nat) (l : List Tc) (hr : RdZ 5 tcE w (.slice a n c) l) (hn : n ≤ 100) :
    Calls Try.prog 21 #[.slice ax nx cx, .int .u64 ver, .slice a n c] w fun e w' => e = .returned (.bool (goodV (X.map Wa.plain) ver l)) ∧ Below w.heap.size w w' := by
  obtain ⟨hlx, _, _⟩ := hX.len
  obtain ⟨hl, _, _⟩ := hr.len
  have HX : Hid (RdZ 2 waE w (.slice ax nx cx) X) := hX
  have HR : Hid (RdZ 5 tcE w (.slice a n c) l) := hr
  have HL : Hid (l.length = n ∧ X.length = nx) := ⟨hl, hlx⟩
  obtain ⟨R, hR⟩ : ∃ R, goodV (X.map Wa.plain) ver l = R := ⟨_, rfl⟩
  rw [hR]
  have HRR : Hid (goodV (X.map Wa.plain) ver l = R) := hR
  clear hX hr hlx hl hR
  go_enter Try.func21, Try.ntmps21
  go_wp2
  go_loopg [7, 14] nx (fun kx s7 s14 wr => ∃ (i : Nat) (g : Bool), s14 = .int .i64 i ∧ s7 = .bool g ∧ i ≤ nx ∧ nx - i ≤ kx ∧ Hid (Below w.heap.size w wr) ∧ Hid (g = (X.take i).all (fun d => decide (d.ver < ver))))
  case atStart => exact ⟨0, true, rfl, rfl, Nat.zero_le _, by omega, Below.refl _ _, by simp [Hid]⟩
  case round =>
    obtain ⟨i, g, rfl, rfl, hin, hkx, HW, HQ⟩ := hrel
    by_cases hlt : i < nx
    · obtain ⟨y, hy⟩ : ∃ y, X[i]? = some y := ⟨_, List.getElem?_eq_getElem (by have := HL.out; omega)⟩
      have HY : Hid (X[i]? = some y) := hy
      obtain ⟨b0, o0, rfl, hld⟩ := wa_load (HX.out.below HW.out) hy
      have HLD : Hid _ := hld
      have hiI : (i : Int) < (nx : Int) := by omega
      have hib : (i : Int) + 1 ≤ 1001 := by omega
      have hbl := bel1 wr (.cells #[.int .u64 y.ver, .slice y.a y.n y.c] 49)
      obtain ⟨w5, hw5⟩ : ∃ w5, wr.alloc (.cells #[.int .u64 y.ver, .slice y.a y.n y.c] 49) = w5 := ⟨_, rfl⟩
      have c0 : w5.cell? ⟨wr.heap.size, 0, none⟩ = some (.int .u64 y.ver) := by rw [← hw5, cell_of_row _ _ _ _ _ (0, 0) (heap_alloc_new wr _)]; rfl
      rw [hw5] at hbl
      have HW5 : Hid (Below w.heap.size w w5) := HW.out.trans (hbl.mono HW.out.size)
      clear hy hld hbl
      cases g with
      | false =>
        go_wp2_with (first | (refine wpList_loadG rfl 49 _ rfl _ rfl _ HLD.out ?_))
        go_roundg (nx - (i + 1))
        case measure => omega
        case rel => exact ⟨i + 1, false, by rw [show ((i : Int) + 1) = ((i + 1 : Nat) : Int) by omega], rfl, by omega, by omega, HW5.out, by unfold Hid; rw [take_next HY.out, List.all_append, ← HQ.out]; rfl⟩
      | true =>
        go_wp2_with (first | (refine wpList_loadG rfl 49 _ rfl _ rfl _ HLD.out ?_))
        go_roundg (nx - (i + 1))
        case measure => omega
        case rel => exact ⟨i + 1, decide (y.ver < ver), by rw [show ((i : Int) + 1) = ((i + 1 : Nat) : Int) by omega], rfl, by omega, by omega, HW5.out, by unfold Hid; rw [take_next HY.out, List.all_append, ← HQ.out]; simp⟩
    · obtain rfl : nx = i := by omega
      have HG : Hid (g = (X.map Wa.plain).all (fun p => decide (p.1 < ver))) := by
        unfold Hid
        have h1 := HQ.out
        rw [List.take_of_length_le (by have := HL.out; omega)] at h1
        rw [h1, List.all_map]; rfl
      clear HQ hkx hin hlt
      go_wp2
      go_loopg [7, 28] n (fun kx s7 s28 wq => ∃ (i : Nat) (b : Bool), s28 = .int .i64 i ∧ s7 = .bool b ∧ i ≤ n ∧ n - i ≤ kx ∧ Hid (Below w.heap.size w wq) ∧ Hid (b = (g && (l.take i).all mayB)))
      case atStart => exact ⟨0, g, rfl, rfl, Nat.zero_le _, by omega, HW.out, by simp [Hid]⟩
      case round =>
        obtain ⟨i, b, rfl, rfl, hin, hkx, HW2, HQ⟩ := hrel
        by_cases hlt : i < n
        · obtain ⟨y, hy⟩ : ∃ y, l[i]? = some y := ⟨_, List.getElem?_eq_getElem (by have := HL.out; omega)⟩
          have HY : Hid (l[i]? = some y) := hy
          have hrd := HR.out.below HW2.out
          obtain ⟨b0, o0, rfl⟩ : ∃ b0 o0, a = some ⟨b0, o0, none⟩ := by
            obtain ⟨b, off, e, _⟩ := tc_cells hrd hy
            exact ⟨b, off, e⟩
          have HLD : Hid _ := tc_load hrd hy
          have hiI : (i : Int) < (n : Int) := by omega
          have hib : (i : Int) + 1 ≤ 1001 := by omega
          have hbl := bel1 wr (.cells #[.int .i64 y.kind, .int .u32 y.ino, .string y.name, .int .i64 y.lo, .int .i64 y.hi] 24)
          obtain ⟨w5, hw5⟩ : ∃ w5, wr.alloc (.cells #[.int .i64 y.kind, .int .u32 y.ino, .string y.name, .int .i64 y.lo, .int .i64 y.hi] 24) = w5 := ⟨_, rfl⟩
          have ht5 : TcAt w5 wr.heap.size y := by rw [← hw5]; exact TcAt.laid wr y
          rw [hw5] at hbl
          have HL5 : Hid _ := ht5.load
          have HW5 : Hid (Below w.heap.size w w5) := HW2.out.trans (hbl.mono HW2.out.size)
          have hck := rck_any w5 y
          clear hy hrd hbl ht5
          cases b with
          | false =>
            clear hck
            go_wp2_with (first | (refine wpList_loadG rfl 24 _ rfl _ rfl _ HLD.out ?_) | (refine wpList_loadG rfl 24 _ rfl _ rfl _ HL5.out ?_))
            go_roundg (n - (i + 1))
            case measure => omega
            case rel => exact ⟨i + 1, false, by rw [show ((i : Int) + 1) = ((i + 1 : Nat) : Int) by omega], rfl, by omega, by omega, HW5.out, by unfold Hid; rw [take_next HY.out, List.all_append, ← Bool.and_assoc, ← HQ.out]; rfl⟩
          | true =>
            cases hq : mayB y with
            | false =>
              rw [ckE_no hq] at hck
              go_wp2_with (first | (refine wpList_loadG rfl 24 _ rfl _ rfl _ HLD.out ?_) | (refine wpList_loadG rfl 24 _ rfl _ rfl _ HL5.out ?_))
              refine hck.mono ?_
              rintro e w6 ⟨rfl, hb6⟩
              have HB6 : Hid (Below w.heap.size w w6) := HW5.out.trans (hb6.mono HW5.out.size)
              clear hb6 hck
              go_wp2
              go_roundg (n - (i + 1))
              case measure => omega
              case rel => exact ⟨i + 1, false, by rw [show ((i : Int) + 1) = ((i + 1 : Nat) : Int) by omega], rfl, by omega, by omega, HB6.out, by unfold Hid; rw [take_next HY.out, List.all_append, ← Bool.and_assoc, ← HQ.out]; simp [hq]⟩
            | true =>
              rw [ckE_yes hq] at hck
              go_wp2_with (first | (refine wpList_loadG rfl 24 _ rfl _ rfl _ HLD.out ?_) | (refine wpList_loadG rfl 24 _ rfl _ rfl _ HL5.out ?_))
              refine hck.mono ?_
              rintro e w6 ⟨rfl, hb6⟩
              have HB6 : Hid (Below w.heap.size w w6) := HW5.out.trans (hb6.mono HW5.out.size)
              clear hb6 hck
              go_wp2
              go_roundg (n - (i + 1))
              case measure => omega
              case rel => exact ⟨i + 1, true, by rw [show ((i : Int) + 1) = ((i + 1 : Nat) : Int) by omega], rfl, by omega, by omega, HB6.out, by unfold Hid; rw [take_next HY.out, List.all_append, ← Bool.and_assoc, ← HQ.out]; simp [hq]⟩
        · obtain rfl : n = i := by omega
          have hres : b = R := by
            have h1 := HQ.out
            rw [List.take_of_length_le (by have := HL.out; omega)] at h1
            rw [h1, HG.out, ← HRR.out]
            rfl
          go_wp2
          go_ret
          exact ⟨by rw [hres]; rfl, HW2.out⟩

end Go.Proofs.Ytmncjecbgakmfaa
