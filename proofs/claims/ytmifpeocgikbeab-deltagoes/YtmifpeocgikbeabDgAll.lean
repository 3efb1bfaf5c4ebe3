/- The document's All. -/
import Derived.Test.YtmifpeocgikbeabDgGet
import Derived.Test.YtmifpeocgikbeabMD
import Derived.Test.YtmifpeocgikbeabME
import Derived.Test.YtmifpeocgikbeabMREF
import Derived.Test.YtmifpeocgikbeabDlAll
namespace Go.Proofs.Ytmifpeocgikbeab
open Go.RowKit
set_option linter.unusedVariables false
set_option linter.unusedSimpArgs false
set_option maxRecDepth 100000

/-- What the search for a place reads. -/
structure AlS (w W : World) (g gc : Nat) (A : List Cg) (y : Cg) : Prop where
  row : RowG W g A
  c : CgAt W gc y
  bel : Below w.heap.size w W
theorem AlS.below {w W W' : World} {g gc : Nat} {A : List Cg} {y : Cg} (h : AlS w W g gc A y) (hb : Below W.heap.size W W') : AlS w W' g gc A y := ⟨h.row.below hb, h.c.below hb, h.bel.trans (hb.mono h.bel.size)⟩
theorem AlS.drew {w W : World} {g gc : Nat} {A : List Cg} {y : Cg} (h : AlS w W g gc A y) : AlS w W.drew g gc A y := h.below (Below.refl _ W).drew

theorem xget_at {w : World} {p : Nat} {v : Value} {M : Int} {xs : List Cg} (h : XdAt w p v M xs) (q : Pl) (hq : PlOk q) (x : Cg) (hx : foldX xs q = some x) : Calls Try.prog 12 #[.pointer (some ⟨p, 0, none⟩), plV q] w fun e w' =>
    e = .returned (.tuple #[.agg (cgC x), .bool true]) ∧ Below w.heap.size w w' := by
  have := xget_any h q hq
  rw [hx] at this
  exact this

set_option maxHeartbeats 8000000 in
theorem xall_any {w : World} {p : Nat} {v : Value} {M : Int} {xs : List Cg} {s : Dl} (h : XdAt w p v M xs) (hr : Rel s xs) (hs : DlOk s) (hm : xs.length ≤ 1000) (hmL : s.L.length ≤ 1000) : Calls Try.prog 19 #[.pointer (some ⟨p, 0, none⟩)] w fun e w' =>
    ∃ u, e = .returned u ∧ w'.ownsRow w.heap.size 37 46 u s.L.length (s.L.flatMap cgL) ∧ Below w.heap.size w w' := by
  have hz := zeroCg
  have len0 : cg0.pt.bytes.length = 32 := cg0_ok.pt.ch.1
  have hok := h.ok
  obtain ⟨a, c, rfl, hlc, hcm, hrow⟩ := xrow_of hok h.at_
  have c0 := h.c0
  have HR : Hid (0 < xs.length → ∃ g, a = some ⟨g, 0, none⟩ ∧ RowG w g xs) := hrow
  have HX : Hid (XdAt w p (.slice a xs.length c) M xs) := h
  obtain ⟨N, hN⟩ : ∃ N, xs.length = N := ⟨_, rfl⟩
  have HN : Hid (xs.length = N) := hN
  rw [hN] at hlc HR c0 hm
  unfold maxLen at hcm
  clear h hrow hN
  go_enter Try.func19, Try.ntmps19
  go_wp2_with fail
  go_loopw [3, 5, 6, 7, 8, 9, 15] (fun u _ _ _ _ _ t wr => ∃ (k : Nat), k ≤ N ∧ t = .int .i64 k ∧ Hid (wr.ownsRow w.heap.size 37 46 u (upX s xs k).length ((upX s xs k).flatMap cgL)) ∧ Hid (Below w.heap.size w wr)) (fun _ _ _ _ _ _ t _ => N - (intOf t).toNat)
  case atStart => exact ⟨0, Nat.zero_le _, rfl, by rw [upX_zero]; exact World.ownsRow_nil _ _ _ _, Below.refl _ _⟩
  case round =>
    obtain ⟨k, hk, rfl, HO, HB⟩ := hrel
    obtain ⟨wo, rfl⟩ : ∃ wo, wo = wr := ⟨wr, rfl⟩
    by_cases hlt : k < N
    · have hltI : (k : Int) < N := by omega
      obtain ⟨g, rfl, hr0⟩ := HR.out (by omega)
      have hrw := hr0.below (HB.out.mono (Nat.le_refl _))
      have hkx : k < xs.length := by rw [HN.out]; exact hlt
      have hin : xs.getD k cg0 ∈ xs := by rw [List.getD_eq_getElem?_getD, List.getElem?_eq_getElem hkx]; exact List.getElem_mem _
      have hck := hok _ hin
      obtain ⟨x, hfx, hxs, hxp, hxok⟩ := hr.there hs hin
      have hld : Hid _ := hrw.load hkx hck
      have hsame : Hid (∀ z ∈ upX s xs k, z.pl = (xs.getD k cg0).pl → upX s xs (k + 1) = upX s xs k) := fun z hz e => upX_same hs hkx hz e
      have hmore : Hid ((∀ z ∈ upX s xs k, z.pl ≠ x.pl) → upX s xs (k + 1) = setL (upX s xs k) x) := fun hn => upX_more hs hkx hxs hxp hn
      have hAok := upX_ok hs xs k
      have hAl := upX_len (s := s) xs k
      obtain ⟨A, hA⟩ : ∃ A, upX s xs k = A := ⟨_, rfl⟩
      obtain ⟨A2, hA2⟩ : ∃ A2, upX s xs (k + 1) = A2 := ⟨_, rfl⟩
      rw [hA] at HO hsame hmore hAok hAl
      rw [hA2] at hsame hmore
      have HA2 : Hid (upX s xs (k + 1) = A2) := hA2
      obtain ⟨y, hy⟩ : ∃ y, xs.getD k cg0 = y := ⟨_, rfl⟩
      rw [hy] at hck hld hfx hxp hsame
      have HY : Hid (y.pt.bytes.length = 32) := hck.pt.ch.1
      have HXL : Hid (x.pt.bytes.length = 32) := hxok.pt.ch.1
      clear hy hin hrw hr0 hA hA2 hkx
      obtain ⟨ua, uc, rfl, hun⟩ := row_of hAok.ok HO.out
      have HRA : Hid (0 < A.length → ∃ g, ua = some ⟨g, 0, none⟩ ∧ RowG wo g A) := fun h => by obtain ⟨g, h1, h2, _⟩ := hun h; exact ⟨g, h1, h2⟩
      have hcap : A.length ≤ uc ∧ uc ≤ maxLen := by
        obtain ⟨_, ⟨h2, h3⟩ | ⟨g, cap, cur, e1, _, _, h5, h6, _⟩⟩ := HO.out
        · simp only [Value.slice.injEq, true_and] at h2; unfold maxLen; omega
        · simp only [Value.slice.injEq, true_and] at e1; obtain ⟨_, rfl⟩ := e1; exact ⟨h5, h6⟩
      obtain ⟨hcap1, hcap2⟩ := hcap
      unfold maxLen at hcap2
      obtain ⟨n, hn⟩ : ∃ n, A.length = n := ⟨_, rfl⟩
      have HNA : Hid (A.length = n) := hn
      rw [hn] at hcap1 hAl HRA
      rw [hn]
      clear hun hn
      have hn3 := CgAt.laid wo cg0
      have hb3 := alloc_row (A := wo) (.cells (cgC cg0) 37) (cgC y)
      have hy3 := hn3.setRow y
      obtain ⟨w3, hw3⟩ : ∃ w3, (wo.alloc (.cells (cgC cg0) 37)).setRow wo.heap.size (cgC y) = w3 := ⟨_, rfl⟩
      rw [hw3] at hb3 hy3
      go_wp2_with (first
        | (refine wpList_loadG rfl 37 _ rfl _ rfl _ hld.out ?_)
        | (refine wpList_storeG rfl _ _ rfl wo.heap.size y cg0 rfl rfl HY.out len0 hn3 ?_; rw [hw3]))
      go_loopw [6] (fun t wq => ∃ (i : Nat), i ≤ n ∧ t = .int .i64 i ∧ Hid (∀ j, j < i → cmpP (A.getD j cg0).pl y.pl = -1) ∧ Hid (Below w3.heap.size w3 wq)) (fun t _ => n - (intOf t).toNat)
      case atStart => exact ⟨0, Nat.zero_le _, rfl, fun j hj => absurd hj (Nat.not_lt_zero _), Below.refl _ _⟩
      case round =>
        obtain ⟨i, hi, rfl, HLO, HBQ⟩ := hrel
        have hyq := hy3.below HBQ.out
        have hbo0 : Below wo.heap.size wo wr := thenB hb3 HBQ.out
        by_cases hil : i < n
        · have hilI : (i : Int) < n := by omega
          obtain ⟨ga, rfl, hra0⟩ := HRA.out (by omega)
          have hiA : i < A.length := by rw [HNA.out]; exact hil
          have hAi : CgOk (A.getD i cg0) := hAok.ok _ (getD_mem hiA)
          have hAm : A.getD i cg0 ∈ A := getD_mem hiA
          have hS : AlS w wr ga wo.heap.size A y := ⟨(hra0.below hb3).below HBQ.out, hyq, thenB HB.out hbo0⟩
          have hldz : ∀ W, RowG W ga A → (Instr.loadAt 25 (.pointer (some ⟨ga, i * 46, none⟩))).run Try.prog W = .ok (plV (A.getD i cg0).pl) W := fun W h => h.loadP hiA
          obtain ⟨z, hze⟩ : ∃ z, A.getD i cg0 = z := ⟨_, rfl⟩
          have HZE : Hid (A.getD i cg0 = z) := hze
          rw [hze] at hAi hAm hldz
          clear hze hra0 hiA
          by_cases hlz : cmpP z.pl y.pl = -1
          · have cr := fun W => refCompare_any W z.pl y.pl
            rw [hlz] at cr
            go_wp2_with fail
            refine wp_region_noPanic ?_
            refine wp_region_held_drew (S := fun W => AlS w W ga wo.heap.size A y ∧ Below w3.heap.size w3 W) (by kernel_rfl) ⟨hS.drew, HBQ.out.drew⟩ (fun hHeld => ?_)
            refine wpAnyH_take (i := 0) (v := .int .i64 i) rfl (by kernel_rfl) (by kernel_rfl) (by kernel_rfl) (fun _ _ _ h => h) (Or.inl ⟨by rfl, fun W hSw => by (try dsimp only at hSw); go_simp⟩) (by assumption) ?_
            try simp only [List.getElem_toArray, List.getElem_cons_zero, List.getElem_cons_succ, Act.put, List.setIfInBounds_toArray, List.set_cons_zero, List.set_cons_succ]
            refine wpAnyH_take (i := 1) (v := .slice (some ⟨ga, 0, none⟩) n uc) rfl (by kernel_rfl) (by kernel_rfl) (by kernel_rfl) (fun _ _ _ h => h) (Or.inl ⟨by rfl, fun W hSw => by (try dsimp only at hSw); go_simp⟩) (by assumption) ?_
            try simp only [List.getElem_toArray, List.getElem_cons_zero, List.getElem_cons_succ, Act.put, List.setIfInBounds_toArray, List.set_cons_zero, List.set_cons_succ]
            refine wpAnyH_take (i := 2) (v := .int .i64 n) rfl (by kernel_rfl) (by kernel_rfl) (by kernel_rfl) (fun _ _ _ h => h) (Or.inl ⟨by rfl, fun W hSw => by (try dsimp only at hSw); go_simp⟩) (by assumption) ?_
            try simp only [List.getElem_toArray, List.getElem_cons_zero, List.getElem_cons_succ, Act.put, List.setIfInBounds_toArray, List.set_cons_zero, List.set_cons_succ]
            refine wpAnyH_take (i := 3) (v := .bool true) rfl (by kernel_rfl) (by kernel_rfl) (by kernel_rfl) (fun _ _ _ h => h) (Or.inl ⟨by rfl, fun W hSw => by (try dsimp only at hSw); go_simp⟩) (by assumption) ?_
            try simp only [List.getElem_toArray, List.getElem_cons_zero, List.getElem_cons_succ, Act.put, List.setIfInBounds_toArray, List.set_cons_zero, List.set_cons_succ]
            refine wpAnyH_take (i := 4) (v := .bool true) rfl (by kernel_rfl) (by kernel_rfl) (by kernel_rfl) (fun _ _ _ h => h) (Or.inl ⟨by rfl, fun W hSw => by (try dsimp only at hSw); go_simp⟩) (by assumption) ?_
            try simp only [List.getElem_toArray, List.getElem_cons_zero, List.getElem_cons_succ, Act.put, List.setIfInBounds_toArray, List.set_cons_zero, List.set_cons_succ]
            refine wpAnyH_take (i := 5) (v := .slice (some ⟨ga, 0, none⟩) n uc) rfl (by kernel_rfl) (by kernel_rfl) (by kernel_rfl) (fun _ _ _ h => h) (Or.inl ⟨by rfl, fun W hSw => by (try dsimp only at hSw); go_simp⟩) (by assumption) ?_
            try simp only [List.getElem_toArray, List.getElem_cons_zero, List.getElem_cons_succ, Act.put, List.setIfInBounds_toArray, List.set_cons_zero, List.set_cons_succ]
            refine wpAnyH_take (i := 6) (v := .int .i64 i) rfl (by kernel_rfl) (by kernel_rfl) (by kernel_rfl) (fun _ _ _ h => h) (Or.inl ⟨by rfl, fun W hSw => by (try dsimp only at hSw); go_simp⟩) (by assumption) ?_
            try simp only [List.getElem_toArray, List.getElem_cons_zero, List.getElem_cons_succ, Act.put, List.setIfInBounds_toArray, List.set_cons_zero, List.set_cons_succ]
            refine wpAnyH_take (i := 7) (v := .pointer (some ⟨ga, i * 46, none⟩)) rfl (by kernel_rfl) (by kernel_rfl) (by kernel_rfl) (fun _ _ _ h => h) (Or.inl ⟨by rfl, fun W hSw => by (try dsimp only at hSw); go_simp⟩) (by assumption) ?_
            try simp only [List.getElem_toArray, List.getElem_cons_zero, List.getElem_cons_succ, Act.put, List.setIfInBounds_toArray, List.set_cons_zero, List.set_cons_succ]
            refine wpAnyH_take (i := 8) (v := .pointer (some ⟨ga, i * 46, none⟩)) rfl (by kernel_rfl) (by kernel_rfl) (by kernel_rfl) (fun _ _ _ h => h) (Or.inl ⟨by rfl, fun W hSw => by (try dsimp only at hSw); go_simp⟩) (by assumption) ?_
            try simp only [List.getElem_toArray, List.getElem_cons_zero, List.getElem_cons_succ, Act.put, List.setIfInBounds_toArray, List.set_cons_zero, List.set_cons_succ]
            refine wpAnyH_take (i := 9) (v := plV z.pl) rfl (by kernel_rfl) (by kernel_rfl) (by kernel_rfl) (fun _ _ _ h => h) (yields_load (by rfl) _ _ rfl _ rfl _ (fun W h => hldz W h.1.row)) (by assumption) ?_
            try simp only [List.getElem_toArray, List.getElem_cons_zero, List.getElem_cons_succ, Act.put, List.setIfInBounds_toArray, List.set_cons_zero, List.set_cons_succ]
            refine wpAnyH_take (i := 10) (v := .pointer (some ⟨wo.heap.size, 0, none⟩)) rfl (by kernel_rfl) (by kernel_rfl) (by kernel_rfl) (fun _ _ _ h => h) (Or.inl ⟨by rfl, fun W hSw => by (try dsimp only at hSw); go_simp⟩) (by assumption) ?_
            try simp only [List.getElem_toArray, List.getElem_cons_zero, List.getElem_cons_succ, Act.put, List.setIfInBounds_toArray, List.set_cons_zero, List.set_cons_succ]
            refine wpAnyH_take (i := 11) (v := plV y.pl) rfl (by kernel_rfl) (by kernel_rfl) (by kernel_rfl) (fun _ _ _ h => h) (yields_load (by rfl) _ _ rfl _ rfl _ (fun W h => h.1.c.loadP)) (by assumption) ?_
            try simp only [List.getElem_toArray, List.getElem_cons_zero, List.getElem_cons_succ, Act.put, List.setIfInBounds_toArray, List.set_cons_zero, List.set_cons_succ]
            refine wpAnyH_ready (rs := [12]) (by kernel_rfl) (by simp) ?_
            refine AllReadyH.cons rfl (fun K hK => ?_) AllReadyH.nil
            go_simp
            go_wp2_with (go_at_call 32; refine (cr _).mono ?_; rintro e w5 ⟨rfl, hb5⟩)
            refine hK.out _ _ ⟨hHeld.1.below hb5, thenB hHeld.2 hb5⟩ (fun hHeld2 => ?_)
            clear hK K
            try simp only [List.getElem_toArray, List.getElem_cons_zero, List.getElem_cons_succ, Act.put, List.setIfInBounds_toArray, List.set_cons_zero, List.set_cons_succ]
            refine wpAnyH_take (i := 13) (v := .bool true) rfl (by kernel_rfl) (by kernel_rfl) (by kernel_rfl) (fun _ _ _ h => h) (Or.inl ⟨by rfl, fun W hSw => by (try dsimp only at hSw); go_simp⟩) (by assumption) ?_
            try simp only [List.getElem_toArray, List.getElem_cons_zero, List.getElem_cons_succ, Act.put, List.setIfInBounds_toArray, List.set_cons_zero, List.set_cons_succ]
            refine wpAnyH_take (i := 14) (v := .bool true) rfl (by kernel_rfl) (by kernel_rfl) (by kernel_rfl) (fun _ _ _ h => h) (Or.inl ⟨by rfl, fun W hSw => by (try dsimp only at hSw); go_simp⟩) (by assumption) ?_
            try simp only [List.getElem_toArray, List.getElem_cons_zero, List.getElem_cons_succ, Act.put, List.setIfInBounds_toArray, List.set_cons_zero, List.set_cons_succ]
            refine wpAnyH_done (by kernel_rfl) ?_ _
            refine NoPanic.normal ?_
            have HBN : Hid (Below w3.heap.size w3 w5) := hHeld2.2
            have HLN : Hid (∀ j, j < i + 1 → cmpP (A.getD j cg0).pl y.pl = -1) := fun j hj => by
              by_cases e : j = i
              · rw [e, HZE.out]; exact hlz
              · exact HLO.out j (by omega)
            clear hHeld hHeld2 cr hldz hS
            go_wp2_with fail
            go_roundw
            case rel => exact ⟨i + 1, by omega, by go_num, HLN, HBN⟩
            case measure => simp [intOf]; omega
          · have cr := fun W => refCompare_any W z.pl y.pl
            obtain ⟨cv, hcv⟩ : ∃ cv, cmpP z.pl y.pl = cv := ⟨_, rfl⟩
            have hcn : ¬ cv < 0 := by rcases cmpP_ord.three z.pl y.pl with q | q | q <;> rw [hcv] at q <;> first | exact absurd (hcv.trans q) hlz | omega
            rw [hcv] at cr
            clear hcv
            go_wp2_with fail
            refine wp_region_noPanic ?_
            refine wp_region_held_drew (S := fun W => AlS w W ga wo.heap.size A y ∧ Below w3.heap.size w3 W) (by kernel_rfl) ⟨hS.drew, HBQ.out.drew⟩ (fun hHeld => ?_)
            refine wpAnyH_take (i := 0) (v := .int .i64 i) rfl (by kernel_rfl) (by kernel_rfl) (by kernel_rfl) (fun _ _ _ h => h) (Or.inl ⟨by rfl, fun W hSw => by (try dsimp only at hSw); go_simp⟩) (by assumption) ?_
            try simp only [List.getElem_toArray, List.getElem_cons_zero, List.getElem_cons_succ, Act.put, List.setIfInBounds_toArray, List.set_cons_zero, List.set_cons_succ]
            refine wpAnyH_take (i := 1) (v := .slice (some ⟨ga, 0, none⟩) n uc) rfl (by kernel_rfl) (by kernel_rfl) (by kernel_rfl) (fun _ _ _ h => h) (Or.inl ⟨by rfl, fun W hSw => by (try dsimp only at hSw); go_simp⟩) (by assumption) ?_
            try simp only [List.getElem_toArray, List.getElem_cons_zero, List.getElem_cons_succ, Act.put, List.setIfInBounds_toArray, List.set_cons_zero, List.set_cons_succ]
            refine wpAnyH_take (i := 2) (v := .int .i64 n) rfl (by kernel_rfl) (by kernel_rfl) (by kernel_rfl) (fun _ _ _ h => h) (Or.inl ⟨by rfl, fun W hSw => by (try dsimp only at hSw); go_simp⟩) (by assumption) ?_
            try simp only [List.getElem_toArray, List.getElem_cons_zero, List.getElem_cons_succ, Act.put, List.setIfInBounds_toArray, List.set_cons_zero, List.set_cons_succ]
            refine wpAnyH_take (i := 3) (v := .bool true) rfl (by kernel_rfl) (by kernel_rfl) (by kernel_rfl) (fun _ _ _ h => h) (Or.inl ⟨by rfl, fun W hSw => by (try dsimp only at hSw); go_simp⟩) (by assumption) ?_
            try simp only [List.getElem_toArray, List.getElem_cons_zero, List.getElem_cons_succ, Act.put, List.setIfInBounds_toArray, List.set_cons_zero, List.set_cons_succ]
            refine wpAnyH_take (i := 4) (v := .bool true) rfl (by kernel_rfl) (by kernel_rfl) (by kernel_rfl) (fun _ _ _ h => h) (Or.inl ⟨by rfl, fun W hSw => by (try dsimp only at hSw); go_simp⟩) (by assumption) ?_
            try simp only [List.getElem_toArray, List.getElem_cons_zero, List.getElem_cons_succ, Act.put, List.setIfInBounds_toArray, List.set_cons_zero, List.set_cons_succ]
            refine wpAnyH_take (i := 5) (v := .slice (some ⟨ga, 0, none⟩) n uc) rfl (by kernel_rfl) (by kernel_rfl) (by kernel_rfl) (fun _ _ _ h => h) (Or.inl ⟨by rfl, fun W hSw => by (try dsimp only at hSw); go_simp⟩) (by assumption) ?_
            try simp only [List.getElem_toArray, List.getElem_cons_zero, List.getElem_cons_succ, Act.put, List.setIfInBounds_toArray, List.set_cons_zero, List.set_cons_succ]
            refine wpAnyH_take (i := 6) (v := .int .i64 i) rfl (by kernel_rfl) (by kernel_rfl) (by kernel_rfl) (fun _ _ _ h => h) (Or.inl ⟨by rfl, fun W hSw => by (try dsimp only at hSw); go_simp⟩) (by assumption) ?_
            try simp only [List.getElem_toArray, List.getElem_cons_zero, List.getElem_cons_succ, Act.put, List.setIfInBounds_toArray, List.set_cons_zero, List.set_cons_succ]
            refine wpAnyH_take (i := 7) (v := .pointer (some ⟨ga, i * 46, none⟩)) rfl (by kernel_rfl) (by kernel_rfl) (by kernel_rfl) (fun _ _ _ h => h) (Or.inl ⟨by rfl, fun W hSw => by (try dsimp only at hSw); go_simp⟩) (by assumption) ?_
            try simp only [List.getElem_toArray, List.getElem_cons_zero, List.getElem_cons_succ, Act.put, List.setIfInBounds_toArray, List.set_cons_zero, List.set_cons_succ]
            refine wpAnyH_take (i := 8) (v := .pointer (some ⟨ga, i * 46, none⟩)) rfl (by kernel_rfl) (by kernel_rfl) (by kernel_rfl) (fun _ _ _ h => h) (Or.inl ⟨by rfl, fun W hSw => by (try dsimp only at hSw); go_simp⟩) (by assumption) ?_
            try simp only [List.getElem_toArray, List.getElem_cons_zero, List.getElem_cons_succ, Act.put, List.setIfInBounds_toArray, List.set_cons_zero, List.set_cons_succ]
            refine wpAnyH_take (i := 9) (v := plV z.pl) rfl (by kernel_rfl) (by kernel_rfl) (by kernel_rfl) (fun _ _ _ h => h) (yields_load (by rfl) _ _ rfl _ rfl _ (fun W h => hldz W h.1.row)) (by assumption) ?_
            try simp only [List.getElem_toArray, List.getElem_cons_zero, List.getElem_cons_succ, Act.put, List.setIfInBounds_toArray, List.set_cons_zero, List.set_cons_succ]
            refine wpAnyH_take (i := 10) (v := .pointer (some ⟨wo.heap.size, 0, none⟩)) rfl (by kernel_rfl) (by kernel_rfl) (by kernel_rfl) (fun _ _ _ h => h) (Or.inl ⟨by rfl, fun W hSw => by (try dsimp only at hSw); go_simp⟩) (by assumption) ?_
            try simp only [List.getElem_toArray, List.getElem_cons_zero, List.getElem_cons_succ, Act.put, List.setIfInBounds_toArray, List.set_cons_zero, List.set_cons_succ]
            refine wpAnyH_take (i := 11) (v := plV y.pl) rfl (by kernel_rfl) (by kernel_rfl) (by kernel_rfl) (fun _ _ _ h => h) (yields_load (by rfl) _ _ rfl _ rfl _ (fun W h => h.1.c.loadP)) (by assumption) ?_
            try simp only [List.getElem_toArray, List.getElem_cons_zero, List.getElem_cons_succ, Act.put, List.setIfInBounds_toArray, List.set_cons_zero, List.set_cons_succ]
            refine wpAnyH_ready (rs := [12]) (by kernel_rfl) (by simp) ?_
            refine AllReadyH.cons rfl (fun K hK => ?_) AllReadyH.nil
            go_simp
            go_wp2_with (go_at_call 32; refine (cr _).mono ?_; rintro e w5 ⟨rfl, hb5⟩)
            refine hK.out _ _ ⟨hHeld.1.below hb5, thenB hHeld.2 hb5⟩ (fun hHeld2 => ?_)
            clear hK K
            try simp only [List.getElem_toArray, List.getElem_cons_zero, List.getElem_cons_succ, Act.put, List.setIfInBounds_toArray, List.set_cons_zero, List.set_cons_succ]
            refine wpAnyH_take (i := 13) (v := .bool false) rfl (by kernel_rfl) (by kernel_rfl) (by kernel_rfl) (fun _ _ _ h => h) (Or.inl ⟨by rfl, fun W hSw => by (try dsimp only at hSw); go_simp⟩) (by assumption) ?_
            try simp only [List.getElem_toArray, List.getElem_cons_zero, List.getElem_cons_succ, Act.put, List.setIfInBounds_toArray, List.set_cons_zero, List.set_cons_succ]
            refine wpAnyH_take (i := 14) (v := .bool false) rfl (by kernel_rfl) (by kernel_rfl) (by kernel_rfl) (fun _ _ _ h => h) (Or.inl ⟨by rfl, fun W hSw => by (try dsimp only at hSw); go_simp⟩) (by assumption) ?_
            try simp only [List.getElem_toArray, List.getElem_cons_zero, List.getElem_cons_succ, Act.put, List.setIfInBounds_toArray, List.set_cons_zero, List.set_cons_succ]
            refine wpAnyH_done (by kernel_rfl) ?_ _
            refine NoPanic.normal ?_
            have HBN : Hid (Below w3.heap.size w3 w5) := hHeld2.2
            have HSN : Hid (AlS w w5 ga wo.heap.size A y) := hHeld2.1
            clear hHeld hHeld2 cr hS
            have heq : ∀ W, (binOp .eql 25 (.agg #[.int .u32 z.pl.ino, .int .i64 z.pl.part, .string z.pl.name, .int .u32 z.pl.chunk]) (.agg #[.int .u32 y.pl.ino, .int .i64 y.pl.part, .string y.pl.name, .int .u32 y.pl.chunk])).run Try.prog W = .ok (.bool (plEq z.pl y.pl)) W := fun W => eq_places W _ _ _ _ _ _ _ _
            go_wp2_with fail
            cases hpe : plEq z.pl y.pl <;> rw [hpe] at heq
            · refine wp_region_noPanic ?_
              refine wp_region_held_drew (S := fun W => AlS w W ga wo.heap.size A y) (by kernel_rfl) HSN.out.drew (fun hHeld => ?_)
              refine wpAnyH_take (i := 0) (v := .int .i64 i) rfl (by kernel_rfl) (by kernel_rfl) (by kernel_rfl) (fun _ _ _ h => h) (Or.inl ⟨by rfl, fun W hSw => by (try dsimp only at hSw); go_simp⟩) (by assumption) ?_
              try simp only [List.getElem_toArray, List.getElem_cons_zero, List.getElem_cons_succ, Act.put, List.setIfInBounds_toArray, List.set_cons_zero, List.set_cons_succ]
              refine wpAnyH_take (i := 1) (v := .slice (some ⟨ga, 0, none⟩) n uc) rfl (by kernel_rfl) (by kernel_rfl) (by kernel_rfl) (fun _ _ _ h => h) (Or.inl ⟨by rfl, fun W hSw => by (try dsimp only at hSw); go_simp⟩) (by assumption) ?_
              try simp only [List.getElem_toArray, List.getElem_cons_zero, List.getElem_cons_succ, Act.put, List.setIfInBounds_toArray, List.set_cons_zero, List.set_cons_succ]
              refine wpAnyH_take (i := 2) (v := .int .i64 n) rfl (by kernel_rfl) (by kernel_rfl) (by kernel_rfl) (fun _ _ _ h => h) (Or.inl ⟨by rfl, fun W hSw => by (try dsimp only at hSw); go_simp⟩) (by assumption) ?_
              try simp only [List.getElem_toArray, List.getElem_cons_zero, List.getElem_cons_succ, Act.put, List.setIfInBounds_toArray, List.set_cons_zero, List.set_cons_succ]
              refine wpAnyH_take (i := 3) (v := .bool true) rfl (by kernel_rfl) (by kernel_rfl) (by kernel_rfl) (fun _ _ _ h => h) (Or.inl ⟨by rfl, fun W hSw => by (try dsimp only at hSw); go_simp⟩) (by assumption) ?_
              try simp only [List.getElem_toArray, List.getElem_cons_zero, List.getElem_cons_succ, Act.put, List.setIfInBounds_toArray, List.set_cons_zero, List.set_cons_succ]
              refine wpAnyH_take (i := 4) (v := .bool true) rfl (by kernel_rfl) (by kernel_rfl) (by kernel_rfl) (fun _ _ _ h => h) (Or.inl ⟨by rfl, fun W hSw => by (try dsimp only at hSw); go_simp⟩) (by assumption) ?_
              try simp only [List.getElem_toArray, List.getElem_cons_zero, List.getElem_cons_succ, Act.put, List.setIfInBounds_toArray, List.set_cons_zero, List.set_cons_succ]
              refine wpAnyH_take (i := 5) (v := .slice (some ⟨ga, 0, none⟩) n uc) rfl (by kernel_rfl) (by kernel_rfl) (by kernel_rfl) (fun _ _ _ h => h) (Or.inl ⟨by rfl, fun W hSw => by (try dsimp only at hSw); go_simp⟩) (by assumption) ?_
              try simp only [List.getElem_toArray, List.getElem_cons_zero, List.getElem_cons_succ, Act.put, List.setIfInBounds_toArray, List.set_cons_zero, List.set_cons_succ]
              refine wpAnyH_take (i := 6) (v := .int .i64 i) rfl (by kernel_rfl) (by kernel_rfl) (by kernel_rfl) (fun _ _ _ h => h) (Or.inl ⟨by rfl, fun W hSw => by (try dsimp only at hSw); go_simp⟩) (by assumption) ?_
              try simp only [List.getElem_toArray, List.getElem_cons_zero, List.getElem_cons_succ, Act.put, List.setIfInBounds_toArray, List.set_cons_zero, List.set_cons_succ]
              refine wpAnyH_take (i := 7) (v := .pointer (some ⟨ga, i * 46, none⟩)) rfl (by kernel_rfl) (by kernel_rfl) (by kernel_rfl) (fun _ _ _ h => h) (Or.inl ⟨by rfl, fun W hSw => by (try dsimp only at hSw); go_simp⟩) (by assumption) ?_
              try simp only [List.getElem_toArray, List.getElem_cons_zero, List.getElem_cons_succ, Act.put, List.setIfInBounds_toArray, List.set_cons_zero, List.set_cons_succ]
              refine wpAnyH_take (i := 8) (v := .pointer (some ⟨ga, i * 46, none⟩)) rfl (by kernel_rfl) (by kernel_rfl) (by kernel_rfl) (fun _ _ _ h => h) (Or.inl ⟨by rfl, fun W hSw => by (try dsimp only at hSw); go_simp⟩) (by assumption) ?_
              try simp only [List.getElem_toArray, List.getElem_cons_zero, List.getElem_cons_succ, Act.put, List.setIfInBounds_toArray, List.set_cons_zero, List.set_cons_succ]
              refine wpAnyH_take (i := 9) (v := .agg #[.int .u32 z.pl.ino, .int .i64 z.pl.part, .string z.pl.name, .int .u32 z.pl.chunk]) rfl (by kernel_rfl) (by kernel_rfl) (by kernel_rfl) (fun _ _ _ h => h) (yields_load (by rfl) _ _ rfl _ rfl _ (fun W h => hldz W h.row)) (by assumption) ?_
              try simp only [List.getElem_toArray, List.getElem_cons_zero, List.getElem_cons_succ, Act.put, List.setIfInBounds_toArray, List.set_cons_zero, List.set_cons_succ]
              refine wpAnyH_take (i := 10) (v := .pointer (some ⟨wo.heap.size, 0, none⟩)) rfl (by kernel_rfl) (by kernel_rfl) (by kernel_rfl) (fun _ _ _ h => h) (Or.inl ⟨by rfl, fun W hSw => by (try dsimp only at hSw); go_simp⟩) (by assumption) ?_
              try simp only [List.getElem_toArray, List.getElem_cons_zero, List.getElem_cons_succ, Act.put, List.setIfInBounds_toArray, List.set_cons_zero, List.set_cons_succ]
              refine wpAnyH_take (i := 11) (v := .agg #[.int .u32 y.pl.ino, .int .i64 y.pl.part, .string y.pl.name, .int .u32 y.pl.chunk]) rfl (by kernel_rfl) (by kernel_rfl) (by kernel_rfl) (fun _ _ _ h => h) (yields_load (by rfl) _ _ rfl _ rfl _ (fun W h => h.c.loadP)) (by assumption) ?_
              try simp only [List.getElem_toArray, List.getElem_cons_zero, List.getElem_cons_succ, Act.put, List.setIfInBounds_toArray, List.set_cons_zero, List.set_cons_succ]
              refine wpAnyH_take (i := 12) (v := .bool false) rfl (by kernel_rfl) (by kernel_rfl) (by kernel_rfl) (fun _ _ _ h => h) (Or.inl ⟨by rfl, fun W hSw => by (try dsimp only at hSw); (have q := heq W; go_simp)⟩) (by assumption) ?_
              try simp only [List.getElem_toArray, List.getElem_cons_zero, List.getElem_cons_succ, Act.put, List.setIfInBounds_toArray, List.set_cons_zero, List.set_cons_succ]
              refine wpAnyH_take (i := 13) (v := .bool false) rfl (by kernel_rfl) (by kernel_rfl) (by kernel_rfl) (fun _ _ _ h => h) (Or.inl ⟨by rfl, fun W hSw => by (try dsimp only at hSw); go_simp⟩) (by assumption) ?_
              try simp only [List.getElem_toArray, List.getElem_cons_zero, List.getElem_cons_succ, Act.put, List.setIfInBounds_toArray, List.set_cons_zero, List.set_cons_succ]
              refine wpAnyH_done (by kernel_rfl) ?_ _
              refine NoPanic.normal ?_
              have HNO : Hid (∀ q ∈ A, q.pl ≠ x.pl) := fun q hq => by
                rw [hxp]
                exact none_at hAok.rise (show i ≤ A.length by rw [HNA.out]; exact hi) HLO.out (fun _ => by rw [HZE.out]; exact ⟨hlz, fun e => by rw [plEq_iff.2 e] at hpe; cases hpe⟩) q hq
              have HHI : Hid (i < A.length → cmpP (A.getD i cg0).pl y.pl ≠ -1) := fun _ => by rw [HZE.out]; exact hlz
              have hbo : Below wo.heap.size wo w5.drew := (thenB hb3 HBN.out).drew
              have HBW : Hid (Below w.heap.size w w5.drew) := HSN.out.bel.drew
              have hyW : CgAt w5.drew wo.heap.size y := HSN.out.c.drew
              obtain ⟨wt, hwt⟩ : ∃ wt, w5.drew = wt := ⟨_, rfl⟩
              rw [hwt] at hbo HBW hyW
              rw [hwt]
              clear hwt heq HSN HBN hldz hHeld
              have HS2 : Hid (A2 = A.take i ++ x :: A.drop i) := by unfold Hid; rw [hmore.out HNO.out]; exact (set_at hAok.rise HNO.out (by rw [HNA.out]; exact hi) (fun j hj => by rw [hxp]; exact HLO.out j hj) (fun hh => by rw [hxp]; exact HHI.out hh)).symm
              have hXq := (HX.out.below (HBW.out.mono (Nat.le_refl _)))
              have hlp : Hid _ := hyW.loadP
              have cgt := xget_at hXq y.pl hck.pl x hfx
              go_wp2_with (first
                | (refine wpList_loadG rfl 25 _ rfl _ rfl _ hlp.out ?_))
              refine cgt.mono ?_
              rintro e w5 ⟨rfl, hb5⟩
              clear cgt
              have hn6 := CgAt.laid w5 cg0
              have hb6 := alloc_row (A := w5) (.cells (cgC cg0) 37) (cgC x)
              have hx6 := hn6.setRow x
              obtain ⟨w6, hw6⟩ : ∃ w6, (w5.alloc (.cells (cgC cg0) 37)).setRow w5.heap.size (cgC x) = w6 := ⟨_, rfl⟩
              rw [hw6] at hb6 hx6
              have HB6 : Hid (Below w.heap.size w w6) := thenB (thenB HBW.out hb5) hb6
              have HO6 : Hid (w6.ownsRow w.heap.size 37 46 (.slice (some ⟨ga, 0, none⟩ : Option Addr) n uc) A.length (A.flatMap cgL)) := by
                have e1 := rowC_below (rowC_below (rowC_below HO.out hbo) hb5) hb6
                rw [HNA.out] at e1
                rw [HNA.out]
                exact e1
              have hs6 := HB6.out.size
              have hiI : (i : Int) ≤ (n : Int) := by omega
              have hicI : (i : Int) ≤ (uc : Int) := by omega
              have hncI : (n : Int) ≤ (uc : Int) := by omega
              have hAt : ∀ z ∈ A.take i, CgOk z := fun z hz => hAok.ok z (List.mem_of_mem_take hz)
              have hAd : ∀ z ∈ A.drop i, CgOk z := fun z hz => hAok.ok z (List.mem_of_mem_drop hz)
              have hx1 : ∀ z ∈ [x], CgOk z := fun z hz => by rw [List.mem_singleton] at hz; rw [hz]; exact hxok
              have HR6 : Hid (RdC w6 (.slice (some ⟨ga, 0, none⟩ : Option Addr) n uc) A) := rdC_own HO6.out
              have HL6 : Hid ((A.take i).length ≤ 1000 ∧ (A.drop i).length ≤ 1000) := by unfold Hid; rw [List.length_take, List.length_drop, HNA.out]; omega
              clear hXq hlp hyW hn3 hy3 hb3 HRA
              go_wp2_with (first
                | (refine wpList_storeG rfl _ _ rfl w5.heap.size x cg0 rfl rfl HXL.out len0 hn6 ?_; rw [hw6])
                | (refine wpList_append_cg rfl _ _ rfl w6.heap.size (.slice none 0 0) [] rfl (World.ownsRow_nil _ _ _ _) (.slice (some ⟨ga, 0, none⟩ : Option Addr) i uc) (A.take i) hAt rfl (rdC_to hAok.ok HR6.out i hi) (by have := HL6.out; simp only [List.length_nil]; omega) (Nat.le_refl _) ?_))
              intro v7 w7 ho7 hg7
              replace ho7 : w7.ownsRow w6.heap.size 37 46 v7 (A.take i).length ((A.take i).flatMap cgL) := ho7.own
              have hb7 : Below w6.heap.size w6 w7 := (Below.refl _ w6).grown hg7 (Nat.le_refl _) (fun q hq => by cases hq)
              have hx7 := hx6.below hb7
              have hlx : Hid _ := hx7.load HXL.out
              have HB7 : Hid (Below w.heap.size w w7) := thenB HB6.out hb7
              have HO7 : Hid _ := ho7
              have hsl := slice_cg x HXL.out w7
              have hb8 : Below w7.heap.size w7 (w7.alloc (.cells (cgC x) 37)) := (Below.refl _ _).alloc (Nat.le_refl _) _
              have hx8 := CgAt.laid w7 x
              obtain ⟨w8, hw8⟩ : ∃ w8, w7.alloc (.cells (cgC x) 37) = w8 := ⟨_, rfl⟩
              rw [hw8] at hsl hb8 hx8
              have HO8 : Hid (w8.ownsRow w6.heap.size 37 46 v7 (A.take i).length ((A.take i).flatMap cgL)) := rowC_below HO7.out hb8
              have HB8 : Hid (Below w.heap.size w w8) := thenB HB7.out hb8
              have hs68 : w6.heap.size ≤ w8.heap.size := (thenB hb7 hb8).size
              have hrx : RdC w8 (.slice (some ⟨w7.heap.size, 0, none⟩) 1 1) [x] := ⟨_, _, rfl, (fun e => by cases e), fun _ => ⟨_, 0, rfl, hx8.lt, fun j u hj => by
                rw [cell_of_row _ _ _ _ _ (0, 0) hx8.row, Nat.zero_add]
                rw [List.flatMap_cons, List.flatMap_nil, List.append_nil] at hj
                rw [← Array.getElem?_toList]; exact hj⟩⟩
              go_wp2_with (first
                | (refine wpList_loadG rfl 37 _ rfl _ rfl _ hlx.out ?_)
                | (refine wpList_buildS rfl 40 1 _ rfl #[(0, .agg (cgC x))] (by kernel_rfl) hsl ?_)
                | (refine wpList_append_cg rfl _ _ rfl w6.heap.size v7 (A.take i) rfl HO8.out _ [x] hx1 rfl hrx (by have := HL6.out; simp only [List.length_cons, List.length_nil]; omega) hs68 ?_))
              intro v9 w9 ho9 hg9
              have HO9 : Hid (w9.ownsRow w6.heap.size 37 46 v9 (A.take i ++ [x]).length ((A.take i ++ [x]).flatMap cgL)) := ho9.own
              have hb69 : Below w6.heap.size w6 w9 := (thenB hb7 hb8).grown hg9 hs68 (fun q hq => (World.ownsRow.lt HO8.out q hq).1)
              have hs69 := hb69.size
              have HR9 : Hid (RdC w9 (.slice (some ⟨ga, 0, none⟩ : Option Addr) n uc) A) := HR6.out.below hb69
              have hun : (some ⟨ga, 0, none⟩ : Option Addr) = none → uc = 0 := fun e => by obtain ⟨a', c', e', z1, _⟩ := HR6.out; simp only [Value.slice.injEq] at e'; obtain ⟨rfl, _, rfl⟩ := e'; exact z1 e
              obtain ⟨CA, HCA⟩ : ∃ CA, Hid (cutC (some ⟨ga, 0, none⟩ : Option Addr) uc i = CA) := ⟨_, rfl⟩
              have HRC : Hid (RdC w9 (.slice CA (n - i) (uc - i)) (A.drop i)) := by unfold Hid; rw [← HCA.out]; exact rdC_cut hAok.ok HR9.out i hi hcap1
              clear hx6 hx7 hx8 hlx hsl hrx
              go_wp2_with (first
                | (refine wpList_sliceC rfl _ _ rfl (some ⟨ga, 0, none⟩ : Option Addr) n uc i rfl rfl hi hcap1 hun ?_; rw [HCA.out])
                | (refine wpList_append_cg rfl _ _ rfl w6.heap.size v9 (A.take i ++ [x]) rfl HO9.out _ (A.drop i) hAd rfl HRC.out (by have := HL6.out; simp only [List.length_append, List.length_cons, List.length_nil]; omega) hs69 ?_))
              intro vA wA hoA hgA
              have HBA : Hid (Below w.heap.size w wA) := thenB HB6.out (hb69.grown hgA hs69 (fun q hq => (World.ownsRow.lt HO9.out q hq).1))
              have HOA : Hid (wA.ownsRow w.heap.size 37 46 vA (upX s xs (k + 1)).length ((upX s xs (k + 1)).flatMap cgL)) := by unfold Hid; rw [HA2.out, HS2.out]; exact rowC_mono hoA.own hs6
              clear hoA hgA
              go_wp2_with fail
              go_roundw
              case rel => exact ⟨k + 1, by omega, by go_num, HOA, HBA⟩
              case measure => simp [intOf]; omega
            · refine wp_region_noPanic ?_
              refine wp_region_held_drew (S := fun W => AlS w W ga wo.heap.size A y) (by kernel_rfl) HSN.out.drew (fun hHeld => ?_)
              refine wpAnyH_take (i := 0) (v := .int .i64 i) rfl (by kernel_rfl) (by kernel_rfl) (by kernel_rfl) (fun _ _ _ h => h) (Or.inl ⟨by rfl, fun W hSw => by (try dsimp only at hSw); go_simp⟩) (by assumption) ?_
              try simp only [List.getElem_toArray, List.getElem_cons_zero, List.getElem_cons_succ, Act.put, List.setIfInBounds_toArray, List.set_cons_zero, List.set_cons_succ]
              refine wpAnyH_take (i := 1) (v := .slice (some ⟨ga, 0, none⟩) n uc) rfl (by kernel_rfl) (by kernel_rfl) (by kernel_rfl) (fun _ _ _ h => h) (Or.inl ⟨by rfl, fun W hSw => by (try dsimp only at hSw); go_simp⟩) (by assumption) ?_
              try simp only [List.getElem_toArray, List.getElem_cons_zero, List.getElem_cons_succ, Act.put, List.setIfInBounds_toArray, List.set_cons_zero, List.set_cons_succ]
              refine wpAnyH_take (i := 2) (v := .int .i64 n) rfl (by kernel_rfl) (by kernel_rfl) (by kernel_rfl) (fun _ _ _ h => h) (Or.inl ⟨by rfl, fun W hSw => by (try dsimp only at hSw); go_simp⟩) (by assumption) ?_
              try simp only [List.getElem_toArray, List.getElem_cons_zero, List.getElem_cons_succ, Act.put, List.setIfInBounds_toArray, List.set_cons_zero, List.set_cons_succ]
              refine wpAnyH_take (i := 3) (v := .bool true) rfl (by kernel_rfl) (by kernel_rfl) (by kernel_rfl) (fun _ _ _ h => h) (Or.inl ⟨by rfl, fun W hSw => by (try dsimp only at hSw); go_simp⟩) (by assumption) ?_
              try simp only [List.getElem_toArray, List.getElem_cons_zero, List.getElem_cons_succ, Act.put, List.setIfInBounds_toArray, List.set_cons_zero, List.set_cons_succ]
              refine wpAnyH_take (i := 4) (v := .bool true) rfl (by kernel_rfl) (by kernel_rfl) (by kernel_rfl) (fun _ _ _ h => h) (Or.inl ⟨by rfl, fun W hSw => by (try dsimp only at hSw); go_simp⟩) (by assumption) ?_
              try simp only [List.getElem_toArray, List.getElem_cons_zero, List.getElem_cons_succ, Act.put, List.setIfInBounds_toArray, List.set_cons_zero, List.set_cons_succ]
              refine wpAnyH_take (i := 5) (v := .slice (some ⟨ga, 0, none⟩) n uc) rfl (by kernel_rfl) (by kernel_rfl) (by kernel_rfl) (fun _ _ _ h => h) (Or.inl ⟨by rfl, fun W hSw => by (try dsimp only at hSw); go_simp⟩) (by assumption) ?_
              try simp only [List.getElem_toArray, List.getElem_cons_zero, List.getElem_cons_succ, Act.put, List.setIfInBounds_toArray, List.set_cons_zero, List.set_cons_succ]
              refine wpAnyH_take (i := 6) (v := .int .i64 i) rfl (by kernel_rfl) (by kernel_rfl) (by kernel_rfl) (fun _ _ _ h => h) (Or.inl ⟨by rfl, fun W hSw => by (try dsimp only at hSw); go_simp⟩) (by assumption) ?_
              try simp only [List.getElem_toArray, List.getElem_cons_zero, List.getElem_cons_succ, Act.put, List.setIfInBounds_toArray, List.set_cons_zero, List.set_cons_succ]
              refine wpAnyH_take (i := 7) (v := .pointer (some ⟨ga, i * 46, none⟩)) rfl (by kernel_rfl) (by kernel_rfl) (by kernel_rfl) (fun _ _ _ h => h) (Or.inl ⟨by rfl, fun W hSw => by (try dsimp only at hSw); go_simp⟩) (by assumption) ?_
              try simp only [List.getElem_toArray, List.getElem_cons_zero, List.getElem_cons_succ, Act.put, List.setIfInBounds_toArray, List.set_cons_zero, List.set_cons_succ]
              refine wpAnyH_take (i := 8) (v := .pointer (some ⟨ga, i * 46, none⟩)) rfl (by kernel_rfl) (by kernel_rfl) (by kernel_rfl) (fun _ _ _ h => h) (Or.inl ⟨by rfl, fun W hSw => by (try dsimp only at hSw); go_simp⟩) (by assumption) ?_
              try simp only [List.getElem_toArray, List.getElem_cons_zero, List.getElem_cons_succ, Act.put, List.setIfInBounds_toArray, List.set_cons_zero, List.set_cons_succ]
              refine wpAnyH_take (i := 9) (v := .agg #[.int .u32 z.pl.ino, .int .i64 z.pl.part, .string z.pl.name, .int .u32 z.pl.chunk]) rfl (by kernel_rfl) (by kernel_rfl) (by kernel_rfl) (fun _ _ _ h => h) (yields_load (by rfl) _ _ rfl _ rfl _ (fun W h => hldz W h.row)) (by assumption) ?_
              try simp only [List.getElem_toArray, List.getElem_cons_zero, List.getElem_cons_succ, Act.put, List.setIfInBounds_toArray, List.set_cons_zero, List.set_cons_succ]
              refine wpAnyH_take (i := 10) (v := .pointer (some ⟨wo.heap.size, 0, none⟩)) rfl (by kernel_rfl) (by kernel_rfl) (by kernel_rfl) (fun _ _ _ h => h) (Or.inl ⟨by rfl, fun W hSw => by (try dsimp only at hSw); go_simp⟩) (by assumption) ?_
              try simp only [List.getElem_toArray, List.getElem_cons_zero, List.getElem_cons_succ, Act.put, List.setIfInBounds_toArray, List.set_cons_zero, List.set_cons_succ]
              refine wpAnyH_take (i := 11) (v := .agg #[.int .u32 y.pl.ino, .int .i64 y.pl.part, .string y.pl.name, .int .u32 y.pl.chunk]) rfl (by kernel_rfl) (by kernel_rfl) (by kernel_rfl) (fun _ _ _ h => h) (yields_load (by rfl) _ _ rfl _ rfl _ (fun W h => h.c.loadP)) (by assumption) ?_
              try simp only [List.getElem_toArray, List.getElem_cons_zero, List.getElem_cons_succ, Act.put, List.setIfInBounds_toArray, List.set_cons_zero, List.set_cons_succ]
              refine wpAnyH_take (i := 12) (v := .bool true) rfl (by kernel_rfl) (by kernel_rfl) (by kernel_rfl) (fun _ _ _ h => h) (Or.inl ⟨by rfl, fun W hSw => by (try dsimp only at hSw); (have q := heq W; go_simp)⟩) (by assumption) ?_
              try simp only [List.getElem_toArray, List.getElem_cons_zero, List.getElem_cons_succ, Act.put, List.setIfInBounds_toArray, List.set_cons_zero, List.set_cons_succ]
              refine wpAnyH_take (i := 13) (v := .bool true) rfl (by kernel_rfl) (by kernel_rfl) (by kernel_rfl) (fun _ _ _ h => h) (Or.inl ⟨by rfl, fun W hSw => by (try dsimp only at hSw); go_simp⟩) (by assumption) ?_
              try simp only [List.getElem_toArray, List.getElem_cons_zero, List.getElem_cons_succ, Act.put, List.setIfInBounds_toArray, List.set_cons_zero, List.set_cons_succ]
              refine wpAnyH_done (by kernel_rfl) ?_ _
              refine NoPanic.normal ?_
              go_wp2_with fail
              have HOA : Hid (w5.drew.ownsRow w.heap.size 37 46 (.slice (some ⟨ga, 0, none⟩) n uc) (upX s xs (k + 1)).length ((upX s xs (k + 1)).flatMap cgL)) := by
                have e1 := rowC_below HO.out ((thenB hb3 HBN.out).drew)
                unfold Hid
                rw [HA2.out, hsame.out z hAm (plEq_iff.1 hpe)]
                rw [HNA.out] at e1 ⊢
                exact e1
              have HBA : Hid (Below w.heap.size w w5.drew) := HSN.out.bel.drew
              go_roundw
              case rel => exact ⟨k + 1, by omega, by go_num, HOA, HBA⟩
              case measure => simp [intOf]; omega
        · have hilI : ¬ (i : Int) < n := by omega
          go_wp2_with fail
          go_quiet (fail)
          have hbo5 : Below wo.heap.size wo (wr.drewN nq) := thenB hbo0 (belowQ _ _ _)
          have hy5 : CgAt (wr.drewN nq) wo.heap.size y := hyq.below (belowQ _ _ _)
          obtain ⟨w5, hw5⟩ : ∃ w5, wr.drewN nq = w5 := ⟨_, rfl⟩
          rw [hw5] at hbo5 hy5
          rw [hw5]
          clear hw5
          go_wp2_with fail
          go_quiet (fail)
          have HNO : Hid (∀ q ∈ A, q.pl ≠ x.pl) := fun q hq => by
            rw [hxp]
            exact none_at hAok.rise (show i ≤ A.length by rw [HNA.out]; exact hi) HLO.out (fun hh => by rw [HNA.out] at hh; omega) q hq
          have HHI : Hid (i < A.length → cmpP (A.getD i cg0).pl y.pl ≠ -1) := fun hh => by rw [HNA.out] at hh; omega
          have hbo : Below wo.heap.size wo (w5.drewN nq) := thenB hbo5 (belowQ _ _ _)
          have HBW : Hid (Below w.heap.size w (w5.drewN nq)) := thenB HB.out hbo
          have hyW : CgAt (w5.drewN nq) wo.heap.size y := hy5.below (belowQ _ _ _)
          obtain ⟨wt, hwt⟩ : ∃ wt, (w5.drewN nq) = wt := ⟨_, rfl⟩
          rw [hwt] at hbo HBW hyW
          rw [hwt]
          clear hwt hbo5 hy5
          have HS2 : Hid (A2 = A.take i ++ x :: A.drop i) := by unfold Hid; rw [hmore.out HNO.out]; exact (set_at hAok.rise HNO.out (by rw [HNA.out]; exact hi) (fun j hj => by rw [hxp]; exact HLO.out j hj) (fun hh => by rw [hxp]; exact HHI.out hh)).symm
          have hXq := (HX.out.below (HBW.out.mono (Nat.le_refl _)))
          have hlp : Hid _ := hyW.loadP
          have cgt := xget_at hXq y.pl hck.pl x hfx
          go_wp2_with (first
            | (refine wpList_loadG rfl 25 _ rfl _ rfl _ hlp.out ?_))
          refine cgt.mono ?_
          rintro e w5 ⟨rfl, hb5⟩
          clear cgt
          have hn6 := CgAt.laid w5 cg0
          have hb6 := alloc_row (A := w5) (.cells (cgC cg0) 37) (cgC x)
          have hx6 := hn6.setRow x
          obtain ⟨w6, hw6⟩ : ∃ w6, (w5.alloc (.cells (cgC cg0) 37)).setRow w5.heap.size (cgC x) = w6 := ⟨_, rfl⟩
          rw [hw6] at hb6 hx6
          have HB6 : Hid (Below w.heap.size w w6) := thenB (thenB HBW.out hb5) hb6
          have HO6 : Hid (w6.ownsRow w.heap.size 37 46 (.slice ua n uc) A.length (A.flatMap cgL)) := by
            have e1 := rowC_below (rowC_below (rowC_below HO.out hbo) hb5) hb6
            rw [HNA.out] at e1
            rw [HNA.out]
            exact e1
          have hs6 := HB6.out.size
          have hiI : (i : Int) ≤ (n : Int) := by omega
          have hicI : (i : Int) ≤ (uc : Int) := by omega
          have hncI : (n : Int) ≤ (uc : Int) := by omega
          have hAt : ∀ z ∈ A.take i, CgOk z := fun z hz => hAok.ok z (List.mem_of_mem_take hz)
          have hAd : ∀ z ∈ A.drop i, CgOk z := fun z hz => hAok.ok z (List.mem_of_mem_drop hz)
          have hx1 : ∀ z ∈ [x], CgOk z := fun z hz => by rw [List.mem_singleton] at hz; rw [hz]; exact hxok
          have HR6 : Hid (RdC w6 (.slice ua n uc) A) := rdC_own HO6.out
          have HL6 : Hid ((A.take i).length ≤ 1000 ∧ (A.drop i).length ≤ 1000) := by unfold Hid; rw [List.length_take, List.length_drop, HNA.out]; omega
          clear hXq hlp hyW hn3 hy3 hb3 HRA
          go_wp2_with (first
            | (refine wpList_storeG rfl _ _ rfl w5.heap.size x cg0 rfl rfl HXL.out len0 hn6 ?_; rw [hw6])
            | (refine wpList_append_cg rfl _ _ rfl w6.heap.size (.slice none 0 0) [] rfl (World.ownsRow_nil _ _ _ _) (.slice ua i uc) (A.take i) hAt rfl (rdC_to hAok.ok HR6.out i hi) (by have := HL6.out; simp only [List.length_nil]; omega) (Nat.le_refl _) ?_))
          intro v7 w7 ho7 hg7
          replace ho7 : w7.ownsRow w6.heap.size 37 46 v7 (A.take i).length ((A.take i).flatMap cgL) := ho7.own
          have hb7 : Below w6.heap.size w6 w7 := (Below.refl _ w6).grown hg7 (Nat.le_refl _) (fun q hq => by cases hq)
          have hx7 := hx6.below hb7
          have hlx : Hid _ := hx7.load HXL.out
          have HB7 : Hid (Below w.heap.size w w7) := thenB HB6.out hb7
          have HO7 : Hid _ := ho7
          have hsl := slice_cg x HXL.out w7
          have hb8 : Below w7.heap.size w7 (w7.alloc (.cells (cgC x) 37)) := (Below.refl _ _).alloc (Nat.le_refl _) _
          have hx8 := CgAt.laid w7 x
          obtain ⟨w8, hw8⟩ : ∃ w8, w7.alloc (.cells (cgC x) 37) = w8 := ⟨_, rfl⟩
          rw [hw8] at hsl hb8 hx8
          have HO8 : Hid (w8.ownsRow w6.heap.size 37 46 v7 (A.take i).length ((A.take i).flatMap cgL)) := rowC_below HO7.out hb8
          have HB8 : Hid (Below w.heap.size w w8) := thenB HB7.out hb8
          have hs68 : w6.heap.size ≤ w8.heap.size := (thenB hb7 hb8).size
          have hrx : RdC w8 (.slice (some ⟨w7.heap.size, 0, none⟩) 1 1) [x] := ⟨_, _, rfl, (fun e => by cases e), fun _ => ⟨_, 0, rfl, hx8.lt, fun j u hj => by
            rw [cell_of_row _ _ _ _ _ (0, 0) hx8.row, Nat.zero_add]
            rw [List.flatMap_cons, List.flatMap_nil, List.append_nil] at hj
            rw [← Array.getElem?_toList]; exact hj⟩⟩
          go_wp2_with (first
            | (refine wpList_loadG rfl 37 _ rfl _ rfl _ hlx.out ?_)
            | (refine wpList_buildS rfl 40 1 _ rfl #[(0, .agg (cgC x))] (by kernel_rfl) hsl ?_)
            | (refine wpList_append_cg rfl _ _ rfl w6.heap.size v7 (A.take i) rfl HO8.out _ [x] hx1 rfl hrx (by have := HL6.out; simp only [List.length_cons, List.length_nil]; omega) hs68 ?_))
          intro v9 w9 ho9 hg9
          have HO9 : Hid (w9.ownsRow w6.heap.size 37 46 v9 (A.take i ++ [x]).length ((A.take i ++ [x]).flatMap cgL)) := ho9.own
          have hb69 : Below w6.heap.size w6 w9 := (thenB hb7 hb8).grown hg9 hs68 (fun q hq => (World.ownsRow.lt HO8.out q hq).1)
          have hs69 := hb69.size
          have HR9 : Hid (RdC w9 (.slice ua n uc) A) := HR6.out.below hb69
          have hun : ua = none → uc = 0 := fun e => by obtain ⟨a', c', e', z1, _⟩ := HR6.out; simp only [Value.slice.injEq] at e'; obtain ⟨rfl, _, rfl⟩ := e'; exact z1 e
          obtain ⟨CA, HCA⟩ : ∃ CA, Hid (cutC ua uc i = CA) := ⟨_, rfl⟩
          have HRC : Hid (RdC w9 (.slice CA (n - i) (uc - i)) (A.drop i)) := by unfold Hid; rw [← HCA.out]; exact rdC_cut hAok.ok HR9.out i hi hcap1
          clear hx6 hx7 hx8 hlx hsl hrx
          go_wp2_with (first
            | (refine wpList_sliceC rfl _ _ rfl ua n uc i rfl rfl hi hcap1 hun ?_; rw [HCA.out])
            | (refine wpList_append_cg rfl _ _ rfl w6.heap.size v9 (A.take i ++ [x]) rfl HO9.out _ (A.drop i) hAd rfl HRC.out (by have := HL6.out; simp only [List.length_append, List.length_cons, List.length_nil]; omega) hs69 ?_))
          intro vA wA hoA hgA
          have HBA : Hid (Below w.heap.size w wA) := thenB HB6.out (hb69.grown hgA hs69 (fun q hq => (World.ownsRow.lt HO9.out q hq).1))
          have HOA : Hid (wA.ownsRow w.heap.size 37 46 vA (upX s xs (k + 1)).length ((upX s xs (k + 1)).flatMap cgL)) := by unfold Hid; rw [HA2.out, HS2.out]; exact rowC_mono hoA.own hs6
          clear hoA hgA
          go_wp2_with fail
          go_roundw
          case rel => exact ⟨k + 1, by omega, by go_num, HOA, HBA⟩
          case measure => simp [intOf]; omega
    · obtain rfl : k = N := by omega
      have hltI : ¬ (k : Int) < k := by omega
      have hA := upX_all hr hs
      rw [HN.out] at hA
      rw [hA] at HO
      go_wp2
      go_ret
      exact ⟨_, rfl, HO.out, HB.out⟩

end Go.Proofs.Ytmifpeocgikbeab
