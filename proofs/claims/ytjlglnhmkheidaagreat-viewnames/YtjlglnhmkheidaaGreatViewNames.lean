/- Proved: a view tells the names of any directory, also when one breaks off. -/
import Derived.Test.YtjlglnhmkheidaaGreatVwLive
import Derived.Test.YtjlglnhmkheidaaGreatK1
import Derived.Test.YtjlglnhmkheidaaGreatN2
import Derived.Test.YtjlglnhmkheidaaGreatV8
import Derived.Deep.RegionHeld3
import Derived.BigQuiet
import Derived.Deep.QuietTactic
import Derived.WalkSmall
import Derived.ProofKit
import Derived.OpenShut
import Derived.ShutString
import Derived.ChangeOld
import Derived.Below
import Derived.Carry
import Derived.Deep.CutRange
import Derived.Deep.CutBlock
namespace Go.Proofs.YtjlglnhmkheidaaGreat.viewNames
open Go.ChangeShapes Go.WideShapes Go.ChangeAt Go.RowKit
open Go.ChangeMaps (open_string shut_string)
set_option linter.unusedVariables false
set_option linter.unusedSimpArgs false

theorem own : ownKnob Tryz.prog.godebug = none := by kernel_rfl
theorem laidOut : laidOutB Tryz.prog = true := by kernel_rfl

attribute [local go_sem] Oper.semAt_some

theorem box_bel {W W' : World} {B : Nat} {t : TypeId} {v : Value} (h : Boxed W B t v) (hb : Below W.heap.size W W') : Boxed W' B t v := (hb.block _ h.lt).trans h
theorem box_belX {xs : List Nat} {n₀ : Nat} {W W' : World} {B : Nat} {t : TypeId} {v : Value} (h : Boxed W B t v) (hb : BelX xs n₀ W W') (hn : B < n₀) (hx : B ∉ xs) : Boxed W' B t v := (hb.block _ hn hx).trans h
theorem own_le {w : World} {base e k : Nat} {v : Value} {n : Nat} {xs : List Value} (h : w.ownsRow base e k v n xs) : n ≤ maxLen := by
  obtain ⟨_, ⟨_, h0⟩ | ⟨g, cap, cur, _, _, _, h5, h6, _⟩⟩ := h
  · rw [h0]; exact Nat.zero_le _
  · omega
theorem built_rv (a : Option Addr) (len cap q : Nat) : Tryz.prog.built 40 [(0, .slice a len cap), (1, .pointer (some ⟨q, 0, none⟩))] = some #[.slice a len cap, .pointer (some ⟨q, 0, none⟩)] := by kernel_rfl

set_option maxRecDepth 100000 in
set_option maxHeartbeats 16000000 in
theorem walk (a : Option Addr) (len cap : Nat) (l : List (ByteArray × ByteArray)) (a1 : Option Addr) (len1 cap1 : Nat) (os : List Cg) (ino most : Int) (w : World) (hl : RdK w a len cap l) (hlo : KvsOk l) (hcs : CgsAt w a1 len1 cap1 os) (hi : (Lit.int .u32 ino).wf = true) (hm : (Lit.int .i64 most).wf = true) : Calls Tryz.prog 4 #[.slice a len cap, .slice a1 len1 cap1, .int .u32 ino, .int .i64 most] w fun e w' => e = .returned (.bool true) ∧ Below w.heap.size w w' := by
  obtain ⟨i0, i1⟩ := bounds_u32 hi
  obtain ⟨m0, m1⟩ := bounds_i64 hm
  clear hi hm
  have al : ∀ (A : World) (o : Obj), Below A.heap.size A (A.alloc o) := fun A o => (Below.refl _ A).alloc (Nat.le_refl _) o
  have hb1 : Below w.heap.size w (((w.alloc (.cells #[.int .u32 ino] 24)).alloc (.cells #[.int .i64 most] 3)).alloc (.cells #[.bool false] 4)) := (((Below.refl _ w).alloc (Nat.le_refl _) _).alloc (by simp) _).alloc (by simp; omega) _
  have bI1 : Boxed (((w.alloc (.cells #[.int .u32 ino] 24)).alloc (.cells #[.int .i64 most] 3)).alloc (.cells #[.bool false] 4)) w.heap.size 24 (.int .u32 ino) := ((Boxed.new w _ _).alloc _).alloc _
  have bM1 : Boxed (((w.alloc (.cells #[.int .u32 ino] 24)).alloc (.cells #[.int .i64 most] 3)).alloc (.cells #[.bool false] 4)) (w.heap.size + 1) 3 (.int .i64 most) := by
    have := (Boxed.new (w.alloc (.cells #[.int .u32 ino] 24)) 3 (.int .i64 most)).alloc (.cells #[.bool false] 4)
    rwa [World.size_alloc] at this
  have bR1 : Boxed (((w.alloc (.cells #[.int .u32 ino] 24)).alloc (.cells #[.int .i64 most] 3)).alloc (.cells #[.bool false] 4)) (w.heap.size + 1 + 1) 4 (.bool false) := by
    have := Boxed.new ((w.alloc (.cells #[.int .u32 ino] 24)).alloc (.cells #[.int .i64 most] 3)) 4 (.bool false)
    rwa [World.size_alloc, World.size_alloc] at this
  obtain ⟨w1, hw1⟩ : ∃ w1, ((w.alloc (.cells #[.int .u32 ino] 24)).alloc (.cells #[.int .i64 most] 3)).alloc (.cells #[.bool false] 4) = w1 := ⟨_, rfl⟩
  rw [hw1] at hb1 bI1 bM1 bR1
  refine calls_marks Tryz.func4 rfl ?_
  simp only [Tryz.ntmps4, List.size_toArray, List.length_cons, List.length_nil, Nat.reduceAdd, Nat.reduceSub, Array.replicate_succ, Array.replicate_zero, List.push_toArray, List.append_toArray, List.nil_append, List.cons_append]
  have cv := live_any w1
  go_wp2_with fail
  refine cv.mono ?_
  rintro e w2 ⟨rfl, hb2⟩
  clear cv
  have bU2 := Boxed.new w2 4 (.bool true)
  have hbU := al w2 (.cells #[.bool true] 4)
  have hB2 := thenB hb1 (thenB hb2 hbU)
  have cn := deltas_any (w2.alloc (.cells #[.bool true] 4)) a1 len1 cap1 os (hcs.below hB2)
  go_wp2_with fail
  refine cn.mono ?_
  rintro e w3 ⟨d, b, q, s, xs, rfl, hD3, h80, hck⟩
  clear cn
  have hb3 := hD3.d.bel
  have hB3 : Below w.heap.size w w3 := thenB hB2 hb3
  have HSO : Hid (DlOk s) := hD3.ok
  have HCK : Hid (CksOk s) := hck
  have HXL : Hid (xs.length ≤ 80) := h80
  have hlL := hD3.r.lenL hD3.ok
  have HLL : Hid (s.L.length ≤ 80) := by unfold Hid; omega
  have hb13 := thenB hb2 (thenB hbU hb3)
  have BI3 : Hid _ := box_bel bI1 hb13
  have BM3 : Hid _ := box_bel bM1 hb13
  have BR3 : Hid _ := box_bel bR1 hb13
  have BU3 : Hid _ := box_bel bU2 hb3
  have HG12 : Hid (w.heap.size + 1 + 1 < w1.heap.size) := bR1.lt
  have HG2 : Hid (w1.heap.size ≤ w2.heap.size) := hb2.size
  clear hck h80 hlL bI1 bM1 bR1 bU2 hbU hb2 hB2 hw1 hb13
  have cr := rising_any w3 a len cap l (hl.below hB3)
  go_wp2_with fail
  refine cr.mono ?_
  rintro e w4 ⟨rv, rfl, ⟨rb, rfl, hris⟩, hb4⟩
  clear cr
  have hB4 := thenB hB3 hb4
  obtain ⟨gr, hgr⟩ : ∃ gr, w.heap.size + 1 + 1 = gr := ⟨_, rfl⟩
  obtain ⟨gu, hgu⟩ : ∃ gu, w2.heap.size = gu := ⟨_, rfl⟩
  have HGR : Hid (w.heap.size ≤ gr) := by unfold Hid; omega
  have HGI : Hid (w.heap.size < gr ∧ w.heap.size + 1 < gr ∧ gr < gu) := by unfold Hid; have := HG12.out; have := HG2.out; omega
  rw [hgr] at BR3 ⊢
  rw [hgu] at BU3 ⊢
  clear hgr hgu
  cases rb
  · have u4 := (box_bel BU3.out hb4).cell
    have hr4 := box_bel BR3.out hb4
    have r4 := hr4.cell
    have f4 := hr4.frozen
    have HR4 : Hid _ := hr4
    clear hr4
    go_wp2_with fail
    have hc5 := (Boxed.set (.bool true) HR4.out).cell
    refine ⟨.bool true, ?_, rfl, hB4.setCell (p := ⟨gr, 0, none⟩) (by show w.heap.size ≤ gr; exact HGR.out) _⟩
    simp [results, Tryz.f4, go_sem, hc5]
  · obtain ⟨hR, h300⟩ := hris rfl
    have HR : Hid (RisK l) := hR
    have HL3 : Hid (len ≤ 300) := by unfold Hid; have := hl.1; omega
    clear hR h300 hris
    have hs5 : SoAt (w4.alloc (.cells #[.slice a len cap, .int .i64 (-1)] 37)) w4.heap.size a len cap l := ⟨heap_alloc_new w4 _, (hl.below hB4).below (al w4 _)⟩
    have hb5 := al w4 (.cells #[.slice a len cap, .int .i64 (-1)] 37)
    obtain ⟨w5, hw5⟩ : ∃ w5, w4.alloc (.cells #[.slice a len cap, .int .i64 (-1)] 37) = w5 := ⟨_, rfl⟩
    rw [hw5] at hs5 hb5
    have cw := vnew_any w5 w4.heap.size d
    unfold baV at cw
    go_wp2_with fail
    refine cw.mono ?_
    rintro e w6 ⟨rfl, hv6, hb6⟩
    clear cw
    have hb36 := thenB hb4 (thenB hb5 hb6)
    have HS6 : Hid _ := hs5.below hb6
    have HV6 : Hid _ := hv6
    have HD6 : Hid _ := hD3.below hb36
    have BI6 : Hid _ := box_bel BI3.out hb36
    have BM6 : Hid _ := box_bel BM3.out hb36
    have BR6 : Hid _ := box_bel BR3.out hb36
    have BU6 : Hid _ := box_bel BU3.out hb36
    have HB6 : Hid _ := thenB hB3 hb36
    obtain ⟨g, hg⟩ : ∃ g, w4.heap.size = g := ⟨_, rfl⟩
    obtain ⟨v, hv⟩ : ∃ v, w5.heap.size = v := ⟨_, rfl⟩
    rw [hg] at HS6 HV6
    rw [hv] at HV6 ⊢
    clear hs5 hv6 hD3 BI3 BM3 BR3 BU3 hb36 hb3 hb4 hb5 hb6 hB3 hB4 hw5 hg hv
    have i6 := (box_bel BI6.out (al w6 (.cells #[.slice none 0 0] 58))).cell
    have bG7 := Boxed.new w6 58 (.slice none 0 0)
    have hb7 := al w6 (.cells #[.slice none 0 0] 58)
    go_wp2_with fail
    obtain ⟨w7, hw7⟩ : ∃ w7, w6.alloc (.cells #[.slice none 0 0] 58) = w7 := ⟨_, rfl⟩
    rw [hw7] at bG7 hb7 ⊢
    clear hw7 i6
    by_cases hz0 : ino = 0
    · subst hz0
      refine (vnames_zero w7 v).mono ?_
      rintro e w8 ⟨B1, rfl, hc30, hlt, hb8⟩
      have cs := some_any w8 42 #[.pointer (some ⟨B1, 0, none⟩)]
      go_wp2_with fail
      refine cs.mono ?_
      rintro e w9 ⟨rfl, rfl⟩
      clear cs
      go_wp2_with fail
      have hb69 := thenB hb7 hb8
      have bI9 := box_bel BI6.out hb69
      have bU9 := box_bel BU6.out hb69
      have bR9 := box_bel BR6.out hb69
      have HBW9 : Hid _ := thenB HB6.out hb69
      refine (wpIn_wide (n := 9)).1 ?_
      refine range_own2 (gf := 42) (lb := #[.pointer (some ⟨B1, 0, none⟩)]) rfl (enters_of Tryz.func42 (by kernel_rfl) rfl) (nerr_own [gr] _ B1 30 w9.heap.size w9 hlt hc30 1 (Nat.le_refl _)) (Below.refl _ _) (Nat.le_refl _) (fun _ => rfl)
        (fun pre X => pre = [] ∧ Boxed X gr 4 (.bool false) ∧ BelX [gr] w9.heap.size w9 X)
        (fun c pre X => c = .ret ∧ Boxed X gr 4 (.bool true) ∧ BelX [gr] w9.heap.size w9 X)
        ?ownI ?ownX ?abI ?abX ⟨rfl, bR9, BelX.refl _ _ _⟩
        (fun x t => (t.setIfInBounds 14 (.string ⟨#[]⟩)).setIfInBounds 15 (.int .i64 30))
        ?assign ?body ?done ?stop
      case assign =>
        rintro l' x X K hK
        have hE : ∀ A B : Act, A = B → K A X → K B X := fun A B h k => h ▸ k
        unfold actOf erE
        simp only [id]
        gi_wp2
        refine hE _ _ ?_ hK
        unfold actOf erE
        first | rfl | (simp; done) | go_simp
      case ownI => exact (own_pure _ _).and ((own_box _ _ _ _).and (own_belX (Nat.le_refl _) (Nat.le_refl _)))
      case ownX =>
        intro c s X X' row hs hg hr
        exact ⟨hs.1, own_box (β := Unit) _ _ _ _ () X X' row hs.2.1 hg hr, own_belX (β := Unit) (Nat.le_refl _) (Nat.le_refl _) () X X' row hs.2.2 hg hr⟩
      case abI =>
        rintro s X b cs ty v ⟨h1, h2, h3⟩ hb ht e
        exact ⟨h1, (heap_setCell_other X ⟨b, 0, none⟩ _ v (by show gr ≠ b; have := bR9.lt; omega)).trans h2, h3.setCell (p := ⟨b, 0, none⟩) (by show w9.heap.size ≤ b; omega) v⟩
      case abX =>
        rintro c s X b cs ty v ⟨h1, h2, h3⟩ hb ht e
        exact ⟨h1, (heap_setCell_other X ⟨b, 0, none⟩ _ v (by show gr ≠ b; have := bR9.lt; omega)).trans h2, h3.setCell (p := ⟨b, 0, none⟩) (by show w9.heap.size ≤ b; omega) v⟩
      case body =>
        rintro l' pre x X hV hl' ⟨h1, h0, h2⟩ hlen
        have iX := (box_belX bI9 h2 bI9.lt (by rw [List.mem_singleton]; have := HGI.out; omega)).cell
        have uX := (box_belX bU9 h2 bU9.lt (by rw [List.mem_singleton]; have := HGI.out; omega)).cell
        have rX := h0.cell
        have fX := h0.frozen
        unfold actOf erE
        gi_wp2
        exact ⟨(KeepsOthers.setCell _ _ _).from _, KpN.setX _ _ (by unfold TV; simp) (by have := bR9.lt; omega), rfl, h0.set _, h2.trans (BelX.setX _ (by simp) _)⟩
      case done =>
        rintro D ys X hD rfl ⟨h1, h0, h2⟩ hK
        cases h1
      case stop =>
        rintro D c pre X hD hSp ⟨rfl, h1, h2⟩ hK
        gi_wp2
        refine ⟨by simp, .inl ⟨_, _, rfl, run_takeDeferred hK, ?_⟩⟩
        have hc5 := cell_kept h1.cell (grownBy_putObj' _ D (.deferred none)) (fun q e => by cases e; exact ⟨_, hK, rfl⟩)
        have q2 : Below w.heap.size w9 X := ⟨h2.os, h2.tape, h2.output, h2.size, fun k hk => h2.block k (Nat.lt_of_lt_of_le hk HBW9.out.size) (by rw [List.mem_singleton]; have := HGI.out; omega)⟩
        refine ⟨.bool true, ?_, rfl, (HBW9.out.trans q2).trans (belowK_b (w := w) (Nat.le_refl _) _ D _ _ (Nat.le_trans HBW9.out.size hD) hK rfl rfl)⟩
        simp [results, Tryz.f4, go_sem, hc5]
    · have hz1 : 0 < ino := by omega
      have hzb : (ino == 0) = false := by simp [hz0]
      obtain ⟨gg, hgg⟩ : ∃ gg, w6.heap.size = gg := ⟨_, rfl⟩
      rw [hgg] at bG7
      have HGG : Hid (w6.heap.size = gg) := hgg
      have hg67 : gg < w7.heap.size := bG7.lt
      have hxl : ∀ x ∈ [gg], x < w7.heap.size := fun x hx => by rw [List.mem_singleton] at hx; rw [hx]; exact hg67
      have hxg : g ∉ [gg] := fun h => by rw [List.mem_singleton] at h; have := HS6.out.lt; omega
      have hxa : ∀ ad, 0 < len → a = some ad → ad.block ∉ [gg] := fun ad hpos e h => by
        obtain ⟨q1, q2, q3, q4⟩ := hl
        obtain ⟨b', off, e', hb', _⟩ := q4 hpos
        rw [List.mem_singleton] at h
        rw [e'] at e
        cases e
        have := HB6.out.size
        dsimp only at h
        omega
      have cn := vnames_any [gg] (HV6.out.below hb7) (HD6.out.d.below hb7) (HS6.out.below hb7) (by have := HLL.out; omega) HCK.out.names ino hz1 i1 hxl hxg hxa
      clear hxl hxg hxa
      have hNN : l.length + s.L.length ≤ 380 := by have := HLL.out; have := HL3.out; have := hl.1; omega
      rw [show w6.heap.size = gg from hgg]
      clear hgg
      refine cn.mono ?_
      rintro e w8 ⟨lb, rfl, hseq, hb8⟩
      clear cn
      have HSQ : Hid _ := hseq
      clear hseq
      have cs := some_any w8 72 lb
      go_wp2_with fail
      refine cs.mono ?_
      rintro e w9 ⟨rfl, rfl⟩
      clear cs
      go_wp2_with fail
      have hb69 := thenB hb7 hb8
      have bI9 := box_bel BI6.out hb69
      have bM9 := box_bel BM6.out hb69
      have bG9 := box_bel bG7 hb8
      have hg9 : gg < w9.heap.size := bG9.lt
      have hGI : w.heap.size < gg ∧ w.heap.size + 1 < gg := ⟨by have := (Boxed.lt BI6.out); have := HGG.out; omega, by have := (Boxed.lt BM6.out); have := HGG.out; omega⟩
      obtain ⟨iI, hii, hi0, hi1, hi2⟩ := info_partsS
      refine (wpIn_wide (n := 9)).1 ?_
      refine range_own2 (gf := 72) (lb := lb) rfl (enters_of Tryz.func72 (by kernel_rfl) rfl) (HSQ.out _) (Below.refl _ _) (Nat.le_refl _) (fun _ => rfl)
        (fun pre X => (∃ va vc, Boxed X gg 58 (.slice va pre.length vc) ∧ X.ownsRow w9.heap.size 9 1 (.slice va pre.length vc) pre.length (strC pre)) ∧ BelX [gg] w9.heap.size w9 X)
        (fun c pre X => (c = .exit 0 ∧ (pre.length : Int) = most) ∧ (∃ va vc, Boxed X gg 58 (.slice va pre.length vc) ∧ X.ownsRow w9.heap.size 9 1 (.slice va pre.length vc) pre.length (strC pre)) ∧ BelX [gg] w9.heap.size w9 X)
        ?ownI ?ownX ?abI ?abX ⟨⟨none, 0, bG9, World.ownsRow_nil _ _ _ _⟩, BelX.refl _ _ _⟩
        (fun x t => (t.setIfInBounds 14 (.string x)).setIfInBounds 15 (.int .i64 0))
        ?assign ?body ?done ?stop
      case assign =>
        rintro l' x X K hK
        have hE : ∀ A B : Act, A = B → K A X → K B X := fun A B h k => h ▸ k
        unfold actOf nmE
        simp only [id]
        gi_wp2
        refine hE _ _ ?_ hK
        unfold actOf nmE
        first | rfl | (simp; done) | go_simp
      case ownI =>
        intro s X X' row hs hg hr
        obtain ⟨⟨va, vc, h1, h2⟩, h3⟩ := hs
        exact ⟨⟨va, vc, own_box (β := Unit) _ _ _ _ () X X' row h1 hg hr, own_names (β := Unit) _ _ _ _ _ () X X' row h2 hg hr⟩, own_belX (β := Unit) (Nat.le_refl _) (Nat.le_refl _) () X X' row h3 hg hr⟩
      case ownX =>
        intro c s X X' row hs hg hr
        obtain ⟨h0, ⟨va, vc, h1, h2⟩, h3⟩ := hs
        exact ⟨h0, ⟨va, vc, own_box (β := Unit) _ _ _ _ () X X' row h1 hg hr, own_names (β := Unit) _ _ _ _ _ () X X' row h2 hg hr⟩, own_belX (β := Unit) (Nat.le_refl _) (Nat.le_refl _) () X X' row h3 hg hr⟩
      case abI =>
        rintro s X b cs ty v ⟨⟨va, vc, h1, h2⟩, h3⟩ hb ht e
        have ht9 : ty ≠ 9 := fun e9 => by rw [e9] at ht; revert ht; unfold TV; simp
        exact ⟨⟨va, vc, (heap_setCell_other X ⟨b, 0, none⟩ _ v (by show gg ≠ b; omega)).trans h1, names_set h2 e ht9 v⟩, h3.setCell (p := ⟨b, 0, none⟩) (by show w9.heap.size ≤ b; omega) v⟩
      case abX =>
        rintro c s X b cs ty v ⟨h0, ⟨va, vc, h1, h2⟩, h3⟩ hb ht e
        have ht9 : ty ≠ 9 := fun e9 => by rw [e9] at ht; revert ht; unfold TV; simp
        exact ⟨h0, ⟨va, vc, (heap_setCell_other X ⟨b, 0, none⟩ _ v (by show gg ≠ b; omega)).trans h1, names_set h2 e ht9 v⟩, h3.setCell (p := ⟨b, 0, none⟩) (by show w9.heap.size ≤ b; omega) v⟩
      case body =>
        rintro l' pre x X hV hl' ⟨⟨va, vc, hBx, hown⟩, hX⟩ hlen
        have hX9 := hX.size
        have bIX := box_belX bI9 hX bI9.lt (by rw [List.mem_singleton]; omega)
        have bMX := box_belX bM9 hX bM9.lt (by rw [List.mem_singleton]; omega)
        have iX := bIX.cell
        have gX := hBx.cell
        obtain ⟨W2, hW2⟩ : ∃ W2, X.alloc (.cells #[.string x] 9) = W2 := ⟨_, rfl⟩
        have hb2 : Below X.heap.size X W2 := by rw [← hW2]; exact al X _
        have hnew : W2.heap[X.heap.size]? = some (.cells #[.string x] 9 (0, 0)) := by rw [← hW2]; exact heap_alloc_new X _
        have hown2 := own_belowS hown hb2
        have HB2 : Hid _ := box_bel hBx hb2
        have HM2 : Hid _ := box_bel bMX hb2
        have hz2 := hb2.size
        have hpl : (pre ++ [x]).length = pre.length + 1 := by simp
        have hstr : strC (pre ++ [x]) = strC pre ++ [.string x] := by simp [strC]
        obtain ⟨L, hL⟩ : ∃ L, pre.length = L := ⟨_, rfl⟩
        have HL : Hid (pre.length = L) := hL
        rw [hL] at hown2 gX hlen
        have HB2' : Hid (Boxed W2 gg 58 (.slice va L vc)) := by unfold Hid; rw [← hL]; exact HB2.out
        have HO2 : Hid (W2.ownsRow w9.heap.size 9 1 (.slice va L vc) L (strC pre)) := hown2
        have FIN : Hid (∀ (W3 : World) (a3 : Option Addr) (c3 : Nat), W3.ownsRow w9.heap.size 9 1 (.slice a3 (L + 1) c3) (L + 1) (strC pre ++ [.string x]) → W2.grownBy W3 (Value.slice va L vc).ownBlock →
            (Boxed W3 gg 58 (.slice va L vc) ∧ Boxed (W3.setCell ⟨gg, 0, none⟩ (.slice a3 (L + 1) c3)) gg 58 (.slice a3 (L + 1) c3) ∧ Boxed (W3.setCell ⟨gg, 0, none⟩ (.slice a3 (L + 1) c3)) (w.heap.size + 1) 3 (.int .i64 most)) ∧
            KpN (TV [gg]) w9.heap.size w9.heap.size X (W3.setCell ⟨gg, 0, none⟩ (.slice a3 (L + 1) c3)) ∧ (∃ va vc, Boxed (W3.setCell ⟨gg, 0, none⟩ (.slice a3 (L + 1) c3)) gg 58 (.slice va (pre ++ [x]).length vc) ∧ (W3.setCell ⟨gg, 0, none⟩ (.slice a3 (L + 1) c3)).ownsRow w9.heap.size 9 1 (.slice va (pre ++ [x]).length vc) (pre ++ [x]).length (strC (pre ++ [x]))) ∧ BelX [gg] w9.heap.size w9 (W3.setCell ⟨gg, 0, none⟩ (.slice a3 (L + 1) c3))) := fun W3 a3 c3 ho3 hg4 => by
          have k1 : KpN (TV [gg]) w9.heap.size w9.heap.size X W3 := (KpN.of_below hb2 hX9).trans (KpN.grown HO2.out hg4 (by unfold TV; simp) (by omega))
          have b3 : Boxed W3 gg 58 (.slice va L vc) := Boxed.kept HB2'.out hg4 (fun e => by have := (World.ownsRow.lt HO2.out gg e.symm).1; omega)
          have m3 : Boxed W3 (w.heap.size + 1) 3 (.int .i64 most) := Boxed.kept HM2.out hg4 (fun e => by have := (World.ownsRow.lt HO2.out _ e.symm).1; have := bM9.lt; omega)
          have kp := k1.trans (KpN.setX (TT := TV [gg]) (n₀ := w9.heap.size) (n₁ := w9.heap.size) (b := gg) (i := 0) W3 (.slice a3 (L + 1) c3) (by unfold TV; simp) hg9)
          refine ⟨⟨b3, b3.set _, (heap_setCell_other W3 ⟨gg, 0, none⟩ _ _ (by show w.heap.size + 1 ≠ gg; omega)).trans m3⟩, kp, ⟨a3, c3, ?_, ?_⟩, hX.trans kp.bel⟩
          · rw [hpl, HL.out]; exact b3.set _
          · rw [hpl, HL.out, hstr]
            exact own_keep ho3 ((Below.refl gg W3).setCell (p := ⟨gg, 0, none⟩) (Nat.le_refl _) _).size (fun q hq hl => heap_setCell_other W3 ⟨gg, 0, none⟩ q _ (fun e => by have := (World.ownsRow.lt ho3 q hq).1; have e2 : q = gg := e; omega))
        have hbL : L ≤ 1000 := by omega
        clear hL hBx hown bMX hb2
        unfold actOf nmE
        by_cases hmm : ((L : Int) + 1) = most
        · gi_wp2_with (gi_at_builtin; refine wpListIn_append_own W2 rfl _ _ 58 rfl w9.heap.size 9 iI (.string ⟨#[]⟩) 1 16 Tryz.underlying58 hii hi0 hi1 hi2 rfl (by decide) _ L (strC pre) rfl hown2 ⟨X.heap.size, 0, none⟩ 1 1 [.string x] rfl rfl (oneS hnew) (by simp [Value.oneCell']) (by unfold maxLen; omega) (by omega) (by omega) ?_; intro v3 w8 ho3 hg4 _; obtain ⟨a3, c3, rfl⟩ := own_shape ho3; obtain ⟨⟨z1, z2, z3⟩, z4, z5, z6⟩ := FIN.out _ _ _ ho3 hg4; have z1c := z1.cell; have z1f := z1.frozen; have z2c := z2.cell; have z3c := z3.cell)
          exact ⟨z4.non, z4.up (by omega), ⟨rfl, by rw [hpl, HL.out]; exact hmm⟩, z5, z6⟩
        · gi_wp2_with (gi_at_builtin; refine wpListIn_append_own W2 rfl _ _ 58 rfl w9.heap.size 9 iI (.string ⟨#[]⟩) 1 16 Tryz.underlying58 hii hi0 hi1 hi2 rfl (by decide) _ L (strC pre) rfl hown2 ⟨X.heap.size, 0, none⟩ 1 1 [.string x] rfl rfl (oneS hnew) (by simp [Value.oneCell']) (by unfold maxLen; omega) (by omega) (by omega) ?_; intro v3 w8 ho3 hg4 _; obtain ⟨a3, c3, rfl⟩ := own_shape ho3; obtain ⟨⟨z1, z2, z3⟩, z4, z5, z6⟩ := FIN.out _ _ _ ho3 hg4; have z1c := z1.cell; have z1f := z1.frozen; have z2c := z2.cell; have z3c := z3.cell)
          exact ⟨z4.non, z4.up (by omega), z5, z6⟩
      case done =>
        rintro D ys X hD hys ⟨⟨va, vc, hBx, hown⟩, h2⟩ hK
        have HB6X : Hid (Below w6.heap.size w6 X) := ⟨h2.os.trans hb69.os, h2.tape.trans hb69.tape, h2.output.trans hb69.output, Nat.le_trans hb69.size h2.size, fun k hk => (h2.block k (Nat.lt_of_lt_of_le hk hb69.size) (by rw [List.mem_singleton]; have := HGG.out; omega)).trans (hb69.block k hk)⟩
        have HBWX : Hid (Below w.heap.size w X) := HB6.out.trans (HB6X.out.mono HB6.out.size)
        have HKX : Hid _ := hK
        have HOX : Hid _ := hown
        have HGX : Hid _ := hBx
        have hkb := own_le hown
        unfold maxLen at hkb
        have iX := (box_bel BI6.out HB6X.out).cell
        have hr1 : RvAt (X.alloc (.cells #[.slice a len cap, .pointer (some ⟨q, 0, none⟩)] 40)) X.heap.size a len cap q := ⟨heap_alloc_new X _⟩
        have hbx1 := al X (.cells #[.slice a len cap, .pointer (some ⟨q, 0, none⟩)] 40)
        have hx1i := (box_bel (box_bel BI6.out HB6X.out) hbx1).cell
        obtain ⟨x1, hx1⟩ : ∃ x1, X.alloc (.cells #[.slice a len cap, .pointer (some ⟨q, 0, none⟩)] 40) = x1 := ⟨_, rfl⟩
        rw [hx1] at hr1 hbx1 hx1i
        have hb61 := HB6X.out.trans (hbx1.mono HB6X.out.size)
        have cr := rnames_any hr1 (hl.below (HBWX.out.trans (hbx1.mono HBWX.out.size))) hlo HL3.out (HD6.out.below hb61) HCK.out HXL.out ino (by omega) i1
        clear hBx hown hK h2 hr1
        go_wp2_with (refine wpList_buildBy rfl 40 _ rfl _ rfl [(0, .slice a len cap), (1, .pointer (some ⟨q, 0, none⟩))] (by kernel_rfl) #[.slice a len cap, .pointer (some ⟨q, 0, none⟩)] (built_rv _ _ _ _) ?_)
        refine cr.mono ?_
        rintro e x2 ⟨u, out, rfl, hou, hris, hmem, hb12⟩
        clear cr iX hx1i hx1
        obtain ⟨n1, n2⟩ := namesV_spec HR.out HSO.out HCK.out (ino := ino) (by omega) i1
        have hout : out = namesV l s ino := ris_ext hris n1 (fun x => (hmem x).trans (n2 x).symm)
        obtain ⟨ua, uc, rfl⟩ := own_shape hou
        obtain ⟨_, hIU⟩ := rdT_own rfl hou
        have HX2 : Hid (Below X.heap.size X x2) := thenB hbx1 hb12
        have hog2 := own_belowS HOX.out HX2.out
        obtain ⟨_, hIG⟩ := rdT_own rfl hog2
        have HBG2 : Hid _ := box_bel HGX.out HX2.out
        have bg2 := Boxed.cell HBG2.out
        have hb62 := HB6X.out.trans (HX2.out.mono HB6X.out.size)
        have bi2 := (box_bel BI6.out hb62).cell
        have bm2 := (box_bel BM6.out hb62).cell
        have HB62 : Hid _ := hb62
        have HBW2 : Hid (Below w.heap.size w x2) := HB6.out.trans (hb62.mono HB6.out.size)
        have HK2 : Hid (x2.heap[D]? = some (.deferred (some []))) := (HX2.out.block D (Array.getElem?_eq_some_iff.1 HKX.out).1).trans HKX.out
        have HPF : Hid (ys <+: out) := by unfold Hid; rw [hout]; exact (by rw [hys]; exact List.prefix_refl _)
        have hple : (ys).length ≤ out.length := HPF.out.length_le
        have HDG : Hid (w.heap.size ≤ D ∧ gr ≠ D) := ⟨Nat.le_trans (Nat.le_trans HB6.out.size hb69.size) hD, fun e => by have := (Boxed.lt BR6.out); have := hb69.size; omega⟩
        clear hou hris hmem n1 n2 hog2 hb62 hb61 hbx1 hb12
        obtain ⟨k, hk⟩ : ∃ k, (ys).length = k := ⟨_, rfl⟩
        obtain ⟨n, hn⟩ : ∃ n, out.length = n := ⟨_, rfl⟩
        have HKL : Hid ((ys).length = k) := hk
        have HNL : Hid (out.length = n) := hn
        have hkn : k = n := by rw [← hk, ← hn, hys, hout]
        rw [hk] at bg2 hIG hple HBG2 hkb
        rw [hn] at hIU hple ⊢
        clear hk hn hout
        subst hkn
        go_wp2_with fail
        go_loopw [17, 101] (fun _ t wr => ∃ (i : Nat), i ≤ k ∧ t = .int .i64 i ∧ Hid (Below x2.heap.size x2 wr)) (fun _ t _ => k - (intOf t).toNat)
        case atStart => exact ⟨0, Nat.zero_le _, rfl, Below.refl _ _⟩
        case round =>
          obtain ⟨i, hi, rfl, HB⟩ := hrel
          by_cases hlt : i < k
          · have hltI : (i : Int) < k := by omega
            obtain ⟨gb, go, rfl, hgb, hgc⟩ := hIG (by omega)
            obtain ⟨ub, uo, rfl, hub, huc⟩ := hIU (by omega)
            obtain ⟨nm, hnm⟩ : ∃ nm, (ys)[i]? = some nm := ⟨_, List.getElem?_eq_getElem (by rw [HKL.out]; exact hlt)⟩
            have hnm2 : out[i]? = some nm := by
              obtain ⟨t, ht⟩ := HPF.out
              rw [← ht, List.getElem?_append_left (by rw [HKL.out]; exact hlt)]
              exact hnm
            have y0 : ∀ m, (wr.drewN m).cell? ⟨gg, 0, none⟩ = some (.slice (some ⟨gb, go, none⟩) k vc) := fun m => (box_bel HBG2.out HB.out).cell
            have y1 : ∀ m, (wr.drewN m).cell? ⟨gb, go + i, none⟩ = some (.string nm) := fun m => (HB.out.cell (p := ⟨gb, go + i, none⟩) hgb).trans (hgc i nm hnm)
            have y2 : ∀ m, (wr.drewN m).cell? ⟨ub, uo + i, none⟩ = some (.string nm) := fun m => (HB.out.cell (p := ⟨ub, uo + i, none⟩) hub).trans (huc i nm hnm2)
            clear hgc huc hnm hnm2
            go_wp2_with fail
            go_quiet (fail)
            have HBQ : Hid (Below x2.heap.size x2 (wr.drewN nq)) := thenB HB.out (belowQ _ _ _)
            go_wp2_with fail
            go_roundw
            case rel => exact ⟨i + 1, by omega, by go_num, HBQ⟩
            case measure => simp [intOf]; omega
          · obtain rfl : i = k := by omega
            have hltI : ¬ (i : Int) < i := by omega
            have hb6r := HB62.out.trans (HB.out.mono HB62.out.size)
            have bu := (box_bel BU6.out hb6r).cell
            have hbr := box_bel BR6.out hb6r
            have brc := hbr.cell
            have brf := hbr.frozen
            have HBR : Hid _ := hbr
            have HKR : Hid (wr.heap[D]? = some (.deferred (some []))) := (HB.out.block D (Array.getElem?_eq_some_iff.1 HK2.out).1).trans HK2.out
            have HBR2 : Hid (Below w.heap.size w wr) := HBW2.out.trans (HB.out.mono HBW2.out.size)
            clear hbr hIG hIU bg2 bi2 bm2
            go_wp2_with fail
            have hK' : (wr.setCell ⟨gr, 0, none⟩ (.bool true)).heap[D]? = some (.deferred (some [])) := (heap_setCell_other wr ⟨gr, 0, none⟩ D _ (fun e => HDG.out.2 e.symm)).trans HKR.out
            refine ⟨by simp, .inl ⟨_, _, rfl, run_takeDeferred hK', ?_⟩⟩
            have hc5 := cell_kept (Boxed.set (.bool true) HBR.out).cell (grownBy_putObj' _ D (.deferred none)) (fun q e => by cases e; exact ⟨_, hK', rfl⟩)
            refine ⟨.bool true, ?_, rfl, (HBR2.out.setCell (p := ⟨gr, 0, none⟩) (by show w.heap.size ≤ gr; exact HGR.out) _).trans (belowK_b (w := w) (Nat.le_refl _) _ D _ _ HDG.out.1 hK' rfl rfl)⟩
            simp [results, Tryz.f4, go_sem, hc5]
      case stop =>
        rintro D c pre X hD hSp ⟨⟨rfl, hmost⟩, ⟨va, vc, hBx, hown⟩, h2⟩ hK
        refine wpIn_wide.2 ?_
        have HB6X : Hid (Below w6.heap.size w6 X) := ⟨h2.os.trans hb69.os, h2.tape.trans hb69.tape, h2.output.trans hb69.output, Nat.le_trans hb69.size h2.size, fun k hk => (h2.block k (Nat.lt_of_lt_of_le hk hb69.size) (by rw [List.mem_singleton]; have := HGG.out; omega)).trans (hb69.block k hk)⟩
        have HBWX : Hid (Below w.heap.size w X) := HB6.out.trans (HB6X.out.mono HB6.out.size)
        have HKX : Hid _ := hK
        have HOX : Hid _ := hown
        have HGX : Hid _ := hBx
        have hkb := own_le hown
        unfold maxLen at hkb
        have iX := (box_bel BI6.out HB6X.out).cell
        have hr1 : RvAt (X.alloc (.cells #[.slice a len cap, .pointer (some ⟨q, 0, none⟩)] 40)) X.heap.size a len cap q := ⟨heap_alloc_new X _⟩
        have hbx1 := al X (.cells #[.slice a len cap, .pointer (some ⟨q, 0, none⟩)] 40)
        have hx1i := (box_bel (box_bel BI6.out HB6X.out) hbx1).cell
        obtain ⟨x1, hx1⟩ : ∃ x1, X.alloc (.cells #[.slice a len cap, .pointer (some ⟨q, 0, none⟩)] 40) = x1 := ⟨_, rfl⟩
        rw [hx1] at hr1 hbx1 hx1i
        have hb61 := HB6X.out.trans (hbx1.mono HB6X.out.size)
        have cr := rnames_any hr1 (hl.below (HBWX.out.trans (hbx1.mono HBWX.out.size))) hlo HL3.out (HD6.out.below hb61) HCK.out HXL.out ino (by omega) i1
        clear hBx hown hK h2 hr1
        go_wp2_with (refine wpList_buildBy rfl 40 _ rfl _ rfl [(0, .slice a len cap), (1, .pointer (some ⟨q, 0, none⟩))] (by kernel_rfl) #[.slice a len cap, .pointer (some ⟨q, 0, none⟩)] (built_rv _ _ _ _) ?_)
        refine cr.mono ?_
        rintro e x2 ⟨u, out, rfl, hou, hris, hmem, hb12⟩
        clear cr iX hx1i hx1
        obtain ⟨n1, n2⟩ := namesV_spec HR.out HSO.out HCK.out (ino := ino) (by omega) i1
        have hout : out = namesV l s ino := ris_ext hris n1 (fun x => (hmem x).trans (n2 x).symm)
        obtain ⟨ua, uc, rfl⟩ := own_shape hou
        obtain ⟨_, hIU⟩ := rdT_own rfl hou
        have HX2 : Hid (Below X.heap.size X x2) := thenB hbx1 hb12
        have hog2 := own_belowS HOX.out HX2.out
        obtain ⟨_, hIG⟩ := rdT_own rfl hog2
        have HBG2 : Hid _ := box_bel HGX.out HX2.out
        have bg2 := Boxed.cell HBG2.out
        have hb62 := HB6X.out.trans (HX2.out.mono HB6X.out.size)
        have bi2 := (box_bel BI6.out hb62).cell
        have bm2 := (box_bel BM6.out hb62).cell
        have HB62 : Hid _ := hb62
        have HBW2 : Hid (Below w.heap.size w x2) := HB6.out.trans (hb62.mono HB6.out.size)
        have HK2 : Hid (x2.heap[D]? = some (.deferred (some []))) := (HX2.out.block D (Array.getElem?_eq_some_iff.1 HKX.out).1).trans HKX.out
        have HPF : Hid (pre <+: out) := by unfold Hid; rw [hout]; exact hSp
        have hple : (pre).length ≤ out.length := HPF.out.length_le
        have HDG : Hid (w.heap.size ≤ D ∧ gr ≠ D) := ⟨Nat.le_trans (Nat.le_trans HB6.out.size hb69.size) hD, fun e => by have := (Boxed.lt BR6.out); have := hb69.size; omega⟩
        clear hou hris hmem n1 n2 hog2 hb62 hb61 hbx1 hb12
        obtain ⟨k, hk⟩ : ∃ k, (pre).length = k := ⟨_, rfl⟩
        obtain ⟨n, hn⟩ : ∃ n, out.length = n := ⟨_, rfl⟩
        have HKL : Hid ((pre).length = k) := hk
        have HNL : Hid (out.length = n) := hn
        have hkm : (k : Int) = most := by rw [← hk]; exact hmost
        rw [hk] at bg2 hIG hple HBG2 hkb
        rw [hn] at hIU hple ⊢
        clear hk hn hout
        subst hkm
        by_cases hkn : k = n
        · subst hkn
          go_wp2_with fail
          go_loopw [17, 101] (fun _ t wr => ∃ (i : Nat), i ≤ k ∧ t = .int .i64 i ∧ Hid (Below x2.heap.size x2 wr)) (fun _ t _ => k - (intOf t).toNat)
          case atStart => exact ⟨0, Nat.zero_le _, rfl, Below.refl _ _⟩
          case round =>
            obtain ⟨i, hi, rfl, HB⟩ := hrel
            by_cases hlt : i < k
            · have hltI : (i : Int) < k := by omega
              obtain ⟨gb, go, rfl, hgb, hgc⟩ := hIG (by omega)
              obtain ⟨ub, uo, rfl, hub, huc⟩ := hIU (by omega)
              obtain ⟨nm, hnm⟩ : ∃ nm, (pre)[i]? = some nm := ⟨_, List.getElem?_eq_getElem (by rw [HKL.out]; exact hlt)⟩
              have hnm2 : out[i]? = some nm := by
                obtain ⟨t, ht⟩ := HPF.out
                rw [← ht, List.getElem?_append_left (by rw [HKL.out]; exact hlt)]
                exact hnm
              have y0 : ∀ m, (wr.drewN m).cell? ⟨gg, 0, none⟩ = some (.slice (some ⟨gb, go, none⟩) k vc) := fun m => (box_bel HBG2.out HB.out).cell
              have y1 : ∀ m, (wr.drewN m).cell? ⟨gb, go + i, none⟩ = some (.string nm) := fun m => (HB.out.cell (p := ⟨gb, go + i, none⟩) hgb).trans (hgc i nm hnm)
              have y2 : ∀ m, (wr.drewN m).cell? ⟨ub, uo + i, none⟩ = some (.string nm) := fun m => (HB.out.cell (p := ⟨ub, uo + i, none⟩) hub).trans (huc i nm hnm2)
              clear hgc huc hnm hnm2
              go_wp2_with fail
              go_quiet (fail)
              have HBQ : Hid (Below x2.heap.size x2 (wr.drewN nq)) := thenB HB.out (belowQ _ _ _)
              go_wp2_with fail
              go_roundw
              case rel => exact ⟨i + 1, by omega, by go_num, HBQ⟩
              case measure => simp [intOf]; omega
            · obtain rfl : i = k := by omega
              have hltI : ¬ (i : Int) < i := by omega
              have hb6r := HB62.out.trans (HB.out.mono HB62.out.size)
              have bu := (box_bel BU6.out hb6r).cell
              have hbr := box_bel BR6.out hb6r
              have brc := hbr.cell
              have brf := hbr.frozen
              have HBR : Hid _ := hbr
              have HKR : Hid (wr.heap[D]? = some (.deferred (some []))) := (HB.out.block D (Array.getElem?_eq_some_iff.1 HK2.out).1).trans HK2.out
              have HBR2 : Hid (Below w.heap.size w wr) := HBW2.out.trans (HB.out.mono HBW2.out.size)
              clear hbr hIG hIU bg2 bi2 bm2
              go_wp2_with fail
              have hK' : (wr.setCell ⟨gr, 0, none⟩ (.bool true)).heap[D]? = some (.deferred (some [])) := (heap_setCell_other wr ⟨gr, 0, none⟩ D _ (fun e => HDG.out.2 e.symm)).trans HKR.out
              refine ⟨by simp, .inl ⟨_, _, rfl, run_takeDeferred hK', ?_⟩⟩
              have hc5 := cell_kept (Boxed.set (.bool true) HBR.out).cell (grownBy_putObj' _ D (.deferred none)) (fun q e => by cases e; exact ⟨_, hK', rfl⟩)
              refine ⟨.bool true, ?_, rfl, (HBR2.out.setCell (p := ⟨gr, 0, none⟩) (by show w.heap.size ≤ gr; exact HGR.out) _).trans (belowK_b (w := w) (Nat.le_refl _) _ D _ _ HDG.out.1 hK' rfl rfl)⟩
              simp [results, Tryz.f4, go_sem, hc5]
        · have hknI : ¬ (k : Int) = n := by omega
          go_wp2_with fail
          go_loopw [17, 101] (fun _ t wr => ∃ (i : Nat), i ≤ k ∧ t = .int .i64 i ∧ Hid (Below x2.heap.size x2 wr)) (fun _ t _ => k - (intOf t).toNat)
          case atStart => exact ⟨0, Nat.zero_le _, rfl, Below.refl _ _⟩
          case round =>
            obtain ⟨i, hi, rfl, HB⟩ := hrel
            by_cases hlt : i < k
            · have hltI : (i : Int) < k := by omega
              have hltN : (i : Int) < n := by omega
              obtain ⟨gb, go, rfl, hgb, hgc⟩ := hIG (by omega)
              obtain ⟨ub, uo, rfl, hub, huc⟩ := hIU (by omega)
              obtain ⟨nm, hnm⟩ : ∃ nm, (pre)[i]? = some nm := ⟨_, List.getElem?_eq_getElem (by rw [HKL.out]; exact hlt)⟩
              have hnm2 : out[i]? = some nm := by
                obtain ⟨t, ht⟩ := HPF.out
                rw [← ht, List.getElem?_append_left (by rw [HKL.out]; exact hlt)]
                exact hnm
              have y0 : ∀ m, (wr.drewN m).cell? ⟨gg, 0, none⟩ = some (.slice (some ⟨gb, go, none⟩) k vc) := fun m => (box_bel HBG2.out HB.out).cell
              have y1 : ∀ m, (wr.drewN m).cell? ⟨gb, go + i, none⟩ = some (.string nm) := fun m => (HB.out.cell (p := ⟨gb, go + i, none⟩) hgb).trans (hgc i nm hnm)
              have y2 : ∀ m, (wr.drewN m).cell? ⟨ub, uo + i, none⟩ = some (.string nm) := fun m => (HB.out.cell (p := ⟨ub, uo + i, none⟩) hub).trans (huc i nm hnm2)
              clear hgc huc hnm hnm2
              go_wp2_with fail
              go_quiet (fail)
              have HBQ : Hid (Below x2.heap.size x2 (wr.drewN nq)) := thenB HB.out (belowQ _ _ _)
              go_wp2_with fail
              go_roundw
              case rel => exact ⟨i + 1, by omega, by go_num, HBQ⟩
              case measure => simp [intOf]; omega
            · obtain rfl : i = k := by omega
              have hltI : ¬ (i : Int) < i := by omega
              have hb6r := HB62.out.trans (HB.out.mono HB62.out.size)
              have bu := (box_bel BU6.out hb6r).cell
              have hbr := box_bel BR6.out hb6r
              have brc := hbr.cell
              have brf := hbr.frozen
              have HBR : Hid _ := hbr
              have HKR : Hid (wr.heap[D]? = some (.deferred (some []))) := (HB.out.block D (Array.getElem?_eq_some_iff.1 HK2.out).1).trans HK2.out
              have HBR2 : Hid (Below w.heap.size w wr) := HBW2.out.trans (HB.out.mono HBW2.out.size)
              clear hbr hIG hIU bg2 bi2 bm2
              go_wp2_with fail
              have hK' : (wr.setCell ⟨gr, 0, none⟩ (.bool true)).heap[D]? = some (.deferred (some [])) := (heap_setCell_other wr ⟨gr, 0, none⟩ D _ (fun e => HDG.out.2 e.symm)).trans HKR.out
              refine ⟨by simp, .inl ⟨_, _, rfl, run_takeDeferred hK', ?_⟩⟩
              have hc5 := cell_kept (Boxed.set (.bool true) HBR.out).cell (grownBy_putObj' _ D (.deferred none)) (fun q e => by cases e; exact ⟨_, hK', rfl⟩)
              refine ⟨.bool true, ?_, rfl, (HBR2.out.setCell (p := ⟨gr, 0, none⟩) (by show w.heap.size ≤ gr; exact HGR.out) _).trans (belowK_b (w := w) (Nat.le_refl _) _ D _ _ HDG.out.1 hK' rfl rfl)⟩
              simp [results, Tryz.f4, go_sem, hc5]

/-! ### The row -/
set_option maxRecDepth 100000 in
theorem lifted (os : Os) (started : os.Started) (H : Type) (enc : TypeId × Value → H) :
    ReturnsInHanded {} Tryz.checked os 4 .any (Rows.viewNamesSpec.pre6 enc Tryz.prog Tryz.f4 Rows.viewNamesRow.domain false) (Rows.viewNamesSpec.post enc Tryz.prog Tryz.f4 false true false false) := by
  refine returnsInHanded_of_change (C := Tryz.checked) own started (by kernel_rfl) Tryz.func4
    (ChangeSpec.witness6 (enc := enc) (C := Tryz.checked) false ⟨#[], #[.slice none 0 0, .slice none 0 0, .int .u32 0, .int .i64 0], []⟩ 8 (by kernel_rfl) (by kernel_rfl) (by kernel_rfl) (by kernel_rfl)) ?_
  intro W base args ds gs before hval0 hW hcnd _
  have hval : ∀ (j : Nat) t v, Tryz.f4.params[j]? = some t → args[j]? = some v → Value.okWide Tryz.prog W .any base t v := hval0
  have hW' := hW
  obtain ⟨p, q, hA0, hV, rfl, hfz, hnd⟩ := hW
  have hA : DataW.TrodAll enc Tryz.prog W 0 (fun _ => true) true Tryz.f4.params.toList args.toList ds p := hA0
  rw [Tryz.params4] at hA hval
  obtain ⟨v0, vs0, d0, ds0, p0, q0, hargs, rfl, rfl, h0, r0⟩ := trodAll_cons hA
  obtain ⟨v1, vs1, d1, ds1, p1, q1, rfl, rfl, rfl, h1, r1⟩ := trodAll_cons r0
  obtain ⟨v2, vs2, d2, ds2, p2, q2, rfl, rfl, rfl, h2, r2⟩ := trodAll_cons r1
  obtain ⟨v3, vs3, d3, ds3, p3, q3, rfl, rfl, rfl, h3, r3⟩ := trodAll_cons r2
  obtain ⟨rfl, rfl, rfl⟩ := trodAll_nil r3
  obtain rfl : args = #[v0, v1, v2, v3] := by cases args; simp_all
  obtain ⟨rfl, rfl⟩ := trodVars_none hV
  obtain ⟨a0, len0, cap0, rfl⟩ := okWide_slice Tryz.underlying22 (hval 0 22 v0 rfl rfl)
  have k0 := h0
  have lt0 : ∀ x ∈ p0, x.block < W.heap.size := by obtain ⟨m, hm⟩ := k0; exact DataW.trod_lt m _ _ _ hm
  obtain ⟨o0, w0, ws0⟩ : ∃ os, RdK W a0 len0 cap0 os ∧ KvsOk os := by
    obtain ⟨fuel, hf⟩ := h0
    exact kvs_of hf
  obtain ⟨a1, len1, cap1, rfl⟩ := okWide_slice Tryz.underlying23 (hval 1 23 v1 rfl rfl)
  have k1 := h1
  have lt1 : ∀ x ∈ p1, x.block < W.heap.size := by obtain ⟨m, hm⟩ := k1; exact DataW.trod_lt m _ _ _ hm
  obtain ⟨o1, w1⟩ : ∃ os, CgsAt W a1 len1 cap1 os := by
    obtain ⟨fuel, hf⟩ := h1
    exact cgs_of hf
  obtain ⟨a2, rfl, rfl, rfl, w2⟩ := open_int Tryz.underlying24 (hval 2 24 v2 rfl rfl) h2
  obtain ⟨a3, rfl, rfl, rfl, w3⟩ := open_int Tryz.underlying3 (hval 3 3 v3 rfl rfl) h3
  clear hA0 hval0
  refine (walk a0 len0 cap0 o0 a1 len1 cap1 o1 a2 a3 W w0 ws0 w1 w2 w3).mono fun e W' ⟨he, bel⟩ => ?_
  subst he
  exact ⟨_, rfl, _, _, _, [], _, [], hW', trodAll_mk1 (shut_bool Tryz.underlying4 _), (trodAll_cons_mk (Below.trod laidOut (by kernel_rfl) (of_decide_eq_true (by kernel_rfl)) k0 bel lt0) (trodAll_cons_mk (Below.trod laidOut (by kernel_rfl) (of_decide_eq_true (by kernel_rfl)) k1 bel lt1) (trodAll_cons_mk (shut_int Tryz.underlying24 w2) (trodAll_cons_mk (shut_int Tryz.underlying3 w3) trodAll_mk0)))), rfl, bel.frame _, fun h => by cases h⟩

theorem over : Rows.viewNamesRow.holds Tryz.pinned (OpenSpec.ofChange Rows.viewNamesSpec) :=
  OpenClaim.holds_of_wide 4 Tryz.f4 rfl rfl rfl rfl rfl rfl rfl ⟨rfl, rfl, rfl, rfl, rfl⟩ rfl rfl rfl rfl rfl (by kernel_rfl) Tryz.func4 (by kernel_rfl)
    (of_decide_eq_true (by kernel_rfl)) (by unfold Func.isWrapper; first | (rw [if_pos (by decide +kernel)]; kernel_rfl) | (rw [if_neg (by decide +kernel)]; exact ⟨rfl, rfl⟩))
    (fun os started H enc _ => lifted os started H enc)

end Go.Proofs.YtjlglnhmkheidaaGreat.viewNames

namespace Go.Proofs.YtjlglnhmkheidaaGreat
/-- The statement. -/
theorem viewNames_proved : Rows.ViewNamesSaid := viewNames.over
#print axioms viewNames_proved
end Go.Proofs.YtjlglnhmkheidaaGreat
