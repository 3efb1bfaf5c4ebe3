/- WMathI, WRecs, WOpen, WMathJ, WMathK, WMathL, WMathM, WMathN, WMathO: in one text. -/
import Derived.Test.YtckcdmkgmbicfaaGreatMW8
import Derived.Test.YtckcdmkgmbicfaaGreatMWD
import Derived.Test.YtckcdmkgmbicfaaGreatWLog
import Derived.Test.YtckcdmkgmbicfaaGreatMW5
namespace Go.Proofs.YtckcdmkgmbicfaaGreat
open Go.RowKit
set_option linter.unusedVariables false
set_option linter.unusedSimpArgs false
set_option maxRecDepth 4000

/-- The safe piece of a block. -/
def safeV (s : St) (f : Int) (i : Nat) : Pc := bodyP (unB (s.safe (f + i)))

structure Run (s : St) (f : Int) (N T : Nat) (K New G D : List Rr) (l : Lo) : Prop where
  calm : Calm s f N
  good : Good s
  un : ∀ i, i < N → unE (seen s (f + i)) = 0
  unS : ∀ i, i < N → unE (s.safe (f + i)) = 0
  si : SI (safeV s f) N T K
  ni : NI N T K New
  ov : Over New
  li : LI N T K New G D l
  now : Now N (safeV s f) (viewP s f) New

theorem Run.ok {s : St} {f : Int} {N T : Nat} {K New G D : List Rr} {l : Lo} (h : Run s f N T K New G D l) : ∀ r ∈ K ++ New, RrOk N r := fun r hr => by
  rcases List.mem_append.1 hr with q | q
  · exact h.si.ok r q
  · exact h.ni.ok r q
theorem Run.chain {s : St} {f : Int} {N T : Nat} {K New G D : List Rr} {l : Lo} (h : Run s f N T K New G D l) : Chain T (K ++ New) := chain_app.2 ⟨h.si.chain, h.ni.chain⟩
theorem Run.ring {s : St} {f : Int} {N T : Nat} {K New G D : List Rr} {l : Lo} (h : Run s f N T K New G D l) : RingOk s f N := ⟨h.calm.f0, h.calm.fn, h.calm.on, h.un⟩

theorem appL_mem {K T A : Nat} {xs : List Int} {S : List Sl} {j : Nat} (hj : j < S.length) : ((S.map Sl.block).getD j 0, appPc K T A xs j) ∈ appL K T A xs S := by
  unfold appL
  refine List.mem_map.2 ⟨j, List.mem_range.2 hj, ?_⟩
  simp [List.getD_eq_getElem?_getD, List.getElem?_eq_getElem hj]
theorem appL_fst (K T A : Nat) (xs : List Int) (S : List Sl) : (appL K T A xs S).map Prod.fst = S.map Sl.block := by
  unfold appL
  rw [List.map_map]
  apply List.ext_getElem
  · simp
  · intro i h1 h2
    have hi : i < S.length := by simpa using h2
    simp [List.getD_eq_getElem?_getD, List.getElem?_eq_getElem hi]

/-- A record is appended. -/
theorem run_append {s : St} {f : Int} {N T : Nat} {K New G D : List Rr} {l : Lo} (h : Run s f N T K New G D l) (g : List ByteArray) (htx : TextsOk g) (hfl : piecesN (layL g).length ≤ l.free.length) (tm : Tm) (ht1 : tm.at_ = l.next) (ht2 : tm.blocks = (l.free.take (piecesN (layL g).length)).map Sl.block)
    (hpk : ∀ i, i < piecesN (layL g).length → PcOk (appPc (if l.grown then 1 else 2) (tailS l.tail (l.free.take (piecesN (layL g).length))) l.next (layL g) i))
    (hgd : Good (wrS f (appL (if l.grown then 1 else 2) (tailS l.tail (l.free.take (piecesN (layL g).length))) l.next (layL g) (l.free.take (piecesN (layL g).length))) s).2) :
    (wrS f (appL (if l.grown then 1 else 2) (tailS l.tail (l.free.take (piecesN (layL g).length))) l.next (layL g) (l.free.take (piecesN (layL g).length))) s).1 = 0 ∧
    Run (wrS f (appL (if l.grown then 1 else 2) (tailS l.tail (l.free.take (piecesN (layL g).length))) l.next (layL g) (l.free.take (piecesN (layL g).length))) s).2 f N T K (New ++ [appR l g]) G (D ++ [appR l g]) ⟨l.there ++ [tm], l.free.drop (piecesN (layL g).length), l.next + piecesN (layL g).length, tailS l.tail (l.free.take (piecesN (layL g).length)), true⟩ := by
  obtain ⟨a1, a2, a3⟩ := li_append h.li h.ni h.ov g htx hfl tm ht1 ht2
  have hpc := pc_app l g
  have hbl : (appR l g).blocks = (l.free.take (piecesN (layL g).length)).map Sl.block := rfl
  have hrok := a1.ok (appR l g) (List.mem_append_right _ (by simp))
  generalize appR l g = r at *
  obtain ⟨S, hS⟩ : ∃ S, l.free.take (piecesN (layL g).length) = S := ⟨_, rfl⟩
  have hSl : S.length = piecesN (layL g).length := by rw [← hS, List.length_take]; omega
  rw [hS] at ht2 hgd a3 hbl ⊢
  simp only [hS] at hpk hpc
  obtain ⟨U, hU⟩ : ∃ U, tailS l.tail S = U := ⟨_, rfl⟩
  rw [hU] at hgd a3 ⊢
  simp only [hU] at hpk hpc
  obtain ⟨KI, hKI⟩ : ∃ KI : Nat, (if l.grown then 1 else 2 : Nat) = KI := ⟨_, rfl⟩
  rw [hKI] at hgd ⊢
  simp only [hKI] at hpk hpc
  have hmem : ∀ x ∈ appL KI U l.next (layL g) S, ∃ j, j < S.length ∧ x = ((S.map Sl.block).getD j 0, appPc KI U l.next (layL g) j) := fun x hx => by
    unfold appL at hx
    obtain ⟨j, hj, e⟩ := List.mem_map.1 hx
    have hj := List.mem_range.1 hj
    refine ⟨j, hj, ?_⟩
    rw [← e]
    simp [List.getD_eq_getElem?_getD, List.getElem?_eq_getElem hj]
  obtain ⟨w1, w2, w3, w4, w5⟩ := wrS_calm (appL KI U l.next (layL g) S) h.calm (fun x hx => by
    obtain ⟨j, hj, rfl⟩ := hmem x hx
    exact ⟨hrok.lt _ (by rw [hbl]; exact getD_mem (by simpa using hj)), hpk j (by omega)⟩) (by rw [appL_fst, ← hbl]; exact hrok.nodup)
  generalize hs' : (wrS f (appL KI U l.next (layL g) S) s).2 = s' at *
  have hsafe : safeV s' f = safeV s f := by unfold safeV; rw [w3]
  have hin : ∀ j, j < r.blocks.length → seen s' (f + (r.blocks.getD j 0 : Nat)) = encP (appPc KI U l.next (layL g) j) := fun j hj => by
    have hj' : j < S.length := by rw [hbl] at hj; simpa using hj
    have := w4 _ (appL_mem (K := KI) (T := U) (A := l.next) (xs := layL g) hj')
    unfold seen
    rw [hbl, this]
    rfl
  have hout : ∀ i : Nat, i ∉ r.blocks → seen s' (f + i) = seen s (f + i) := fun i hi => by
    unfold seen
    rw [w3, w5 (f + i) (fun x hx q => hi (by
      obtain ⟨j, hj, rfl⟩ := hmem x hx
      have : i = (S.map Sl.block).getD j 0 := by simp only at q; omega
      rw [this, hbl]
      exact getD_mem (by simpa using hj)))]
  have hlen : r.blocks.length = piecesN (layL g).length := by rw [hbl, List.length_map]; exact hSl
  refine ⟨w1, w2, hgd, fun i hi => ?_, fun i hi => by rw [w3]; exact h.unS i hi, by rw [hsafe]; exact h.si, a1, a2, a3, ?_⟩
  · by_cases hb : i ∈ r.blocks
    · obtain ⟨j, hj, e⟩ := mem_getD hb
      have := hin j hj
      rw [e] at this
      rw [this]
      exact (enc_view (hpk j (by omega))).1
    · rw [hout i hb]; exact h.un i hi
  · rw [hsafe]
    refine now_add h.now (fun j hj => ?_) (fun i hi hb => ?_)
    · unfold viewP
      rw [hin j hj, (enc_view (hpk j (by omega))).2]
      exact hpc j
    · unfold viewP
      rw [hout i hb]

/-- The first ones are let go. -/
theorem run_let {s : St} {f : Int} {N T : Nat} {K New G D : List Rr} {l : Lo} (h : Run s f N T K New G D l) (i : Nat) : Run s f N T K New (G ++ D.take i) (D.drop i) (l.drop_ i) :=
  ⟨h.calm, h.good, h.un, h.unS, h.si, h.ni, h.ov, li_let h.li h.ok h.chain i, h.now⟩

/-- All is made safe. -/
theorem run_sync {s : St} {f : Int} {N T : Nat} {K New G D : List Rr} {l : Lo} (h : Run s f N T K New G D l) (hgd : Good (allSafe s)) (hcalm : Calm (allSafe s) f N) (hpend : ∀ i, (allSafe s).pend i = none) : ∃ U K' G', Run (allSafe s) f N U K' [] G' D l ∧ chainE U K' = chainE T (K ++ New) := by
  obtain ⟨n1, n2, n3⟩ := now_safe h.si h.ni h.now h.ov
  have hseen : ∀ i, seen (allSafe s) i = seen s i := fun i => by unfold seen; rw [hpend i]; exact allSafe_safe h.good i
  have hsv : safeV (allSafe s) f = viewP s f := by funext i; unfold safeV viewP; rw [allSafe_safe h.good]
  have hvv : viewP (allSafe s) f = viewP s f := by funext i; unfold viewP; rw [hseen]
  refine ⟨_, _, _, ⟨hcalm, hgd, fun i hi => by rw [hseen]; exact h.un i hi, fun i hi => by rw [allSafe_safe h.good]; exact h.un i hi, by rw [hsv]; exact n1, ni_nil _ _ _, List.Pairwise.nil, li_sync h.li h.ok h.chain n2 (now_tail h.si.tail h.now.shows h.li.tnew h.li.t0) n3, by rw [hsv, hvv]; exact now_nil _ _⟩, n3⟩

def rcC (x : Wm) : List Value := [.int .u64 x.at_, x.gv]
theorem Tryz.infoRec : (Tryz.prog.info? 64).map (fun i => (i.zero, i.size, i.bytes)) = some (some (.agg #[.int .u64 0, .slice none 0 0]), 2, 32) := by kernel_rfl

set_option maxRecDepth 100000 in
set_option maxHeartbeats 2000000 in
theorem records_any {base : Nat} {w : World} {p : Nat} {f : Int} {N T E fr : Nat} {av : Value} {aK : Option Addr} {cK : Nat} {K : List Wm} (hav : ∃ b n c, av = .slice b n c) (hW : WsAt base w (.slice aK K.length cK) K) (hK : K.length ≤ 1024) :
    Calls Tryz.prog 36 #[.agg #[.pointer (some ⟨p, 0, none⟩), .int .i64 f, .int .i64 N, av, .int .u64 T, .slice aK K.length cK, .int .u64 E], .int .u64 fr] w fun e w' => ∃ v, e = .returned v ∧ w'.ownsRow w.heap.size 64 2 v (K.drop (firstK fr K)).length ((K.drop (firstK fr K)).flatMap rcC) ∧ Below w.heap.size w w' := by
  obtain ⟨ab, an, ac, rfl⟩ := hav
  obtain ⟨iR, hiR, hr0, hr1, hr2⟩ := info_parts Tryz.infoRec
  have HW0 : Hid (WsAt base w (.slice aK K.length cK) K) := hW
  have hFl := firstK_le fr K
  have hsl : ∃ sv sc, (∀ W, (Instr.sliceAt 86 (.slice aK K.length cK) (some (.int .i64 (firstK fr K))) none none).run Tryz.prog W = .ok (.slice sv (K.length - firstK fr K) sc) W) ∧ (firstK fr K < K.length → ∃ g, aK = some ⟨g, 0, none⟩ ∧ sv = some ⟨g, firstK fr K * 4, none⟩ ∧ K.length - firstK fr K ≤ sc ∧ sc ≤ maxLen) := by
    obtain ⟨_, ⟨e, h2⟩ | ⟨g, cap, cur, e, _, _, h5, h6, _⟩⟩ := hW.own
    · simp only [Value.slice.injEq] at e; obtain ⟨rfl, e2, rfl⟩ := e; exact sliceW none K.length 0 _ (firstK_le fr K) (by omega) (by decide) (fun _ => rfl) (fun ad h => by cases h)
    · simp only [Value.slice.injEq, true_and] at e; obtain ⟨rfl, rfl⟩ := e; exact sliceW (some ⟨g, 0, none⟩) K.length cK _ (firstK_le fr K) h5 h6 (fun h => by cases h) (fun ad h => by cases h; exact ⟨g, rfl⟩)
  obtain ⟨w1, hw1⟩ : ∃ w1, w.alloc (.cells #[.pointer (some ⟨p, 0, none⟩), .int .i64 f, .int .i64 N, .slice ab an ac, .int .u64 T, .slice aK K.length cK, .int .u64 E] 88) = w1 := ⟨_, rfl⟩
  have hB1 : Below w.heap.size w w1 := by rw [← hw1]; exact (Below.refl _ w).alloc (Nat.le_refl _) _
  have hg1 : w1.heap[w.heap.size]? = some (.cells #[.pointer (some ⟨p, 0, none⟩), .int .i64 f, .int .i64 N, .slice ab an ac, .int .u64 T, .slice aK K.length cK, .int .u64 E] 88 (0, 0)) := by rw [← hw1]; exact heap_alloc_new w _
  have hlt1 : w.heap.size < w1.heap.size := (Array.getElem?_eq_some_iff.1 hg1).1
  have s0 : ∀ j v, (#[.pointer (some ⟨p, 0, none⟩), .int .i64 f, .int .i64 N, .slice ab an ac, .int .u64 T, .slice aK K.length cK, .int .u64 E] : Array Value)[j]? = some v → ∀ W, Below w1.heap.size w1 W → W.cell? ⟨w.heap.size, j, none⟩ = some v := fun j v hv W hW => by
    rw [cell_of_row _ _ j _ _ (0, 0) ((hW.block _ hlt1).trans hg1)]; exact hv
  have s00 := s0 0 _ rfl
  have s01 := s0 1 _ rfl
  have s02 := s0 2 _ rfl
  have s03 := s0 3 _ rfl
  have s04 := s0 4 _ rfl
  have s05 := s0 5 _ rfl
  have s06 := s0 6 _ rfl
  have hb1d : Below w.heap.size w w1.drew := hB1.drew
  have cf := firstFrom_any (w := w1.drew) (p := some ⟨p, 0, none⟩) (f := f) (N := N) (T := T) (E := E) (fr := fr) (av := .slice ab an ac) ⟨_, _, _, rfl⟩ (HW0.out.keep hb1d.size (fun j _ hj => hb1d.block j hj)) (by omega)
  generalize hFe : firstK fr K = F at *
  clear hFe s0 hg1 hW
  obtain ⟨sv, sc, hsl1, hsl2⟩ := hsl
  go_enter Tryz.func36, Tryz.ntmps36
  go_wp2_with fail
  refine wp_region_noPanic ?_
  refine wp_region_held_drew (S := fun W => Below w1.heap.size w1 W) (by kernel_rfl) (Below.refl _ _).drew (fun hHeld => ?_)
  refine wpAnyH_take (i := 0) (v := .pointer (some ⟨w.heap.size, 5, none⟩)) rfl (by kernel_rfl) (by kernel_rfl) (by kernel_rfl) (fun _ _ _ h => h) (Or.inl ⟨by rfl, fun W hSw => by (try dsimp only at hSw); go_simp⟩) (by assumption) ?_
  simp only [List.getElem_toArray, List.getElem_cons_zero, List.getElem_cons_succ, Act.put, List.setIfInBounds_toArray, List.set_cons_zero, List.set_cons_succ]
  refine wpAnyH_take (i := 1) (v := .slice aK K.length cK) rfl (by kernel_rfl) (by kernel_rfl) (by kernel_rfl) (fun _ _ _ h => h) (Or.inl ⟨by rfl, fun W hSw => by (try dsimp only at hSw); go_simp⟩) (by assumption) ?_
  simp only [List.getElem_toArray, List.getElem_cons_zero, List.getElem_cons_succ, Act.put, List.setIfInBounds_toArray, List.set_cons_zero, List.set_cons_succ]
  refine wpAnyH_take (i := 2) (v := .agg #[.pointer (some ⟨p, 0, none⟩), .int .i64 f, .int .i64 N, .slice ab an ac, .int .u64 T, .slice aK K.length cK, .int .u64 E]) rfl (by kernel_rfl) (by kernel_rfl) (by kernel_rfl) (fun _ _ _ h => h) (Or.inl ⟨by rfl, fun W hSw => by (try dsimp only at hSw); go_simp⟩) (by assumption) ?_
  simp only [List.getElem_toArray, List.getElem_cons_zero, List.getElem_cons_succ, Act.put, List.setIfInBounds_toArray, List.set_cons_zero, List.set_cons_succ]
  refine wpAnyH_take (i := 3) (v := .int .u64 fr) rfl (by kernel_rfl) (by kernel_rfl) (by kernel_rfl) (fun _ _ _ h => h) (Or.inl ⟨by rfl, fun W hSw => by (try dsimp only at hSw); go_simp⟩) (by assumption) ?_
  simp only [List.getElem_toArray, List.getElem_cons_zero, List.getElem_cons_succ, Act.put, List.setIfInBounds_toArray, List.set_cons_zero, List.set_cons_succ]
  refine wpAnyH_take (i := 7) (v := .int .i64 0) rfl (by kernel_rfl) (by kernel_rfl) (by kernel_rfl) (fun _ _ _ h => h) (Or.inl ⟨by rfl, fun W hSw => by (try dsimp only at hSw); go_simp⟩) (by assumption) ?_
  simp only [List.getElem_toArray, List.getElem_cons_zero, List.getElem_cons_succ, Act.put, List.setIfInBounds_toArray, List.set_cons_zero, List.set_cons_succ]
  refine wpAnyH_ready (rs := [4]) (by kernel_rfl) (by simp) ?_
  refine AllReadyH.cons rfl (fun K hK => ?_) AllReadyH.nil
  go_simp
  go_wp2_with (go_at_call 67; refine cf.mono ?_; rintro e4 w2 ⟨rfl, hB2⟩)
  refine hK.out _ _ (keep2 (by assumption) (by assumption)) (fun hHeld2 => ?_)
  clear hK K
  refine wpAnyH_take (i := 5) (v := .slice sv (K.length - F) sc) rfl (by kernel_rfl) (by kernel_rfl) (by kernel_rfl) (fun _ _ _ h => h) (Or.inl ⟨by rfl, fun W hSw => by (try dsimp only at hSw); go_simp⟩) (by assumption) ?_
  simp only [List.getElem_toArray, List.getElem_cons_zero, List.getElem_cons_succ, Act.put, List.setIfInBounds_toArray, List.set_cons_zero, List.set_cons_succ]
  refine wpAnyH_take (i := 6) (v := .int .i64 ((K.length - F : Nat) : Int)) rfl (by kernel_rfl) (by kernel_rfl) (by kernel_rfl) (fun _ _ _ h => h) (Or.inl ⟨by rfl, fun W hSw => by (try dsimp only at hSw); go_simp⟩) (by assumption) ?_
  simp only [List.getElem_toArray, List.getElem_cons_zero, List.getElem_cons_succ, Act.put, List.setIfInBounds_toArray, List.set_cons_zero, List.set_cons_succ]
  refine wpAnyH_done (by kernel_rfl) ?_ _
  refine NoPanic.normal ?_
  have hb12 : Below w1.heap.size w1 w2 := hHeld2
  have hb02 : Below w.heap.size w w2 := thenB hB1 hb12
  have hs02 := hb02.size
  have hs12 := hb12.size
  clear s00 s01 s02 s03 s04 s05 s06 cf hsl1
  go_wp2
  go_loopw [5, 7, 15] (fun r _ t wr => ∃ (k : Nat) (aR : Option Addr) (cR : Nat), k ≤ K.length - F ∧ t = .int .i64 k ∧ r = .slice aR k cR ∧ Hid (wr.ownsRow w2.heap.size 64 2 (.slice aR k cR) k (((K.drop F).take k).flatMap rcC)) ∧ Below w2.heap.size w2 wr) (fun _ _ t _ => K.length - F - (RowKit.intOf t).toNat)
  case atStart => exact ⟨0, none, 0, Nat.zero_le _, rfl, rfl, World.ownsRow_nil _ _ _ _, Below.refl _ _⟩
  case round =>
    obtain ⟨k, aR, cR, hk, rfl, rfl, HR, hbr⟩ := hrel
    have hsr := hbr.size
    have hb0q : Below w.heap.size w wr := hb02.trans (hbr.mono (by omega))
    by_cases hkl : k < K.length - F
    · have hkI : (k : Int) < ((K.length - F : Nat) : Int) := by omega
      obtain ⟨g, rfl, rfl, hsc, hscm⟩ := hsl2 (by omega)
      obtain ⟨g', cap, hv, hcl, hcm, hgb, hgl2, hcell⟩ := (HW0.out.keep hb0q.size (fun k _ hk => hb0q.block k hk)).cell (by omega)
      simp only [Value.slice.injEq, true_and, Option.some.injEq, Addr.mk.injEq, and_true] at hv
      obtain ⟨rfl, rfl⟩ := hv
      obtain ⟨x, hx⟩ : ∃ x, K[F + k]? = some x := ⟨_, List.getElem?_eq_getElem (by omega)⟩
      have c0 : wr.cell? ⟨g, F * 4 + k * 4, none⟩ = some (.int .u64 x.at_) := by have := hcell (F + k) x hx 0 _ rfl; rw [show F * 4 + k * 4 = (F + k) * 4 + 0 from by omega]; exact this
      have c1 : wr.cell? ⟨g, F * 4 + k * 4 + 1, none⟩ = some (.slice x.ba x.blocks.length x.bc) := by have := hcell (F + k) x hx 1 _ rfl; rw [show F * 4 + k * 4 + 1 = (F + k) * 4 + 1 from by omega]; exact this
      have c2 : wr.cell? ⟨g, F * 4 + k * 4 + 2, none⟩ = some (.slice x.ga x.group.length x.gc) := by have := hcell (F + k) x hx 2 _ rfl; rw [show F * 4 + k * 4 + 2 = (F + k) * 4 + 2 from by omega]; exact this
      have c3 : wr.cell? ⟨g, F * 4 + k * 4 + 3, none⟩ = some (.bool x.begins) := by have := hcell (F + k) x hx 3 _ rfl; rw [show F * 4 + k * 4 + 3 = (F + k) * 4 + 3 from by omega]; exact this
      have HT1 : Hid (((K.drop F).take (k + 1)).flatMap rcC = ((K.drop F).take k).flatMap rcC ++ [.int .u64 x.at_, .slice x.ga x.group.length x.gc]) := by
        unfold Hid
        rw [List.take_add_one, List.getElem?_drop, hx, List.flatMap_append]
        simp [rcC, Wm.gv]
      obtain ⟨Z1, hZ1⟩ : ∃ Z1, wr.alloc (.cells #[.int .u64 x.at_, .slice x.ba x.blocks.length x.bc, .slice x.ga x.group.length x.gc, .bool x.begins] 126) = Z1 := ⟨_, rfl⟩
      have hBZ1 : Below wr.heap.size wr Z1 := by rw [← hZ1]; exact (Below.refl _ wr).alloc (Nat.le_refl _) _
      have hgZ1 : Z1.heap[wr.heap.size]? = some (.cells #[.int .u64 x.at_, .slice x.ba x.blocks.length x.bc, .slice x.ga x.group.length x.gc, .bool x.begins] 126 (0, 0)) := by rw [← hZ1]; exact heap_alloc_new wr _
      have d0 : Z1.cell? ⟨wr.heap.size, 0, none⟩ = some (.int .u64 x.at_) := by rw [cell_of_row _ _ 0 _ _ (0, 0) hgZ1]; rfl
      have d2 : Z1.cell? ⟨wr.heap.size, 2, none⟩ = some (.slice x.ga x.group.length x.gc) := by rw [cell_of_row _ _ 2 _ _ (0, 0) hgZ1]; rfl
      obtain ⟨Z2, hZ2⟩ : ∃ Z2, Z1.alloc (.cells #[.int .u64 x.at_, .slice x.ga x.group.length x.gc] 64) = Z2 := ⟨_, rfl⟩
      have hBZ2 : Below Z1.heap.size Z1 Z2 := by rw [← hZ2]; exact (Below.refl _ Z1).alloc (Nat.le_refl _) _
      have hnew : Z2.heap[Z1.heap.size]? = some (.cells #[.int .u64 x.at_, .slice x.ga x.group.length x.gc] 64 (0, 0)) := by rw [← hZ2]; exact heap_alloc_new Z1 _
      have hb2 : Below wr.heap.size wr Z2 := thenB hBZ1 hBZ2
      have hR2 := own_keep HR.out hb2.size (fun q _ hl => hb2.block q hl)
      have hs2 := hb2.size
      clear hcell
      go_wp2_with (at_builtin; refine wpList_append_own_at Z2 rfl _ _ 31 rfl w2.heap.size 64 iR _ 2 32 Tryz.underlying31 hiR hr0 hr1 hr2 rfl (by decide) _ k (((K.drop F).take k).flatMap rcC) rfl hR2 ⟨Z1.heap.size, 0, none⟩ 1 1 [.int .u64 x.at_, .slice x.ga x.group.length x.gc] rfl rfl (rowAdd hnew) (by simp [Value.oneCell']) (by unfold maxLen; omega) (by omega) (by omega) ?_; intro v3 Z3 hown3 hg3 _ hat3; obtain ⟨a3, c3, rfl⟩ := own_shape hown3)
      have hb3 : Below w2.heap.size w2 Z3 := (hbr.trans (hb2.mono (by omega))).grown hg3 (by omega) (fun q hq => (World.ownsRow.lt hR2 q hq).1)
      have HR3 : Hid (Z3.ownsRow w2.heap.size 64 2 (.slice a3 (k + 1) c3) (k + 1) (((K.drop F).take (k + 1)).flatMap rcC)) := by unfold Hid; rw [HT1.out]; exact hown3
      clear hown3 hg3 hat3 hR2 hnew hgZ1
      go_roundw
      case rel => exact ⟨k + 1, a3, c3, by omega, by go_num, rfl, HR3, hb3⟩
      case measure => simp [RowKit.intOf]; omega
    · obtain rfl : k = K.length - F := by omega
      have hdr : (K.drop F).take (K.length - F) = K.drop F := List.take_of_length_le (by rw [List.length_drop]; exact Nat.le_refl _)
      rw [hdr] at HR
      go_wp2
      go_ret
      refine ⟨_, rfl, ?_, hb0q⟩
      rw [List.length_drop]
      exact own_mono HR.out (by omega)

/-- What is kept is made of what was found. -/
theorem whole_parts {fs : List Fd} {W : Wh} (h : wholeOf fs = some W) (hl : ∀ x ∈ fs, x.p.length < 65536) : W.blocks.length ≤ 1000 ∧ (∀ b ∈ W.blocks, ∃ x ∈ fs, x.block = b) ∧ ∃ x ∈ fs, W.at_ = x.p.at_ := by
  cases fs with
  | nil => cases h
  | cons x r =>
    refine ⟨whole_len h (hl x (by simp)), ?_, x, by simp, (whole_at h).1⟩
    rw [whole_cons] at h
    split at h
    · rw [Option.map_eq_some_iff] at h
      obtain ⟨g, _, rfl⟩ := h
      intro b hb
      obtain ⟨y, hy, rfl⟩ := List.mem_map.1 hb
      exact ⟨y, List.mem_of_mem_take hy, rfl⟩
    · cases h

theorem keep_parts : ∀ (fs : List Fd) (e : Nat), (∀ x ∈ fs, x.p.length < 65536) → (keepL fs e).length ≤ fs.length ∧ ∀ W ∈ keepL fs e, W.blocks.length ≤ 1000 ∧ (∀ b ∈ W.blocks, ∃ x ∈ fs, x.block = b) ∧ ∃ x ∈ fs, W.at_ = x.p.at_
  | [], e, _ => ⟨Nat.le_refl _, fun W hW => by cases hW⟩
  | x :: r, e, hl => by
    have ih := fun e' => keep_parts r e' (fun y hy => hl y (List.mem_cons_of_mem _ hy))
    have up : ∀ e', ∀ W ∈ keepL r e', W.blocks.length ≤ 1000 ∧ (∀ b ∈ W.blocks, ∃ y ∈ x :: r, y.block = b) ∧ ∃ y ∈ x :: r, W.at_ = y.p.at_ := fun e' W hW => by
      obtain ⟨h1, h2, y, hy, h3⟩ := (ih e').2 W hW
      exact ⟨h1, fun b hb => by obtain ⟨z, hz, e⟩ := h2 b hb; exact ⟨z, List.mem_cons_of_mem _ hz, e⟩, y, List.mem_cons_of_mem _ hy, h3⟩
    rw [keepL_cons]
    cases hw : wholeOf (x :: r) with
    | none => exact ⟨Nat.le_trans (ih e).1 (by simp), up e⟩
    | some W =>
      dsimp only
      split
      · refine ⟨by have := (ih (W.at_ + W.blocks.length)).1; simp; omega, fun V hV => ?_⟩
        rcases List.mem_cons.1 hV with rfl | hV
        · exact whole_parts hw hl
        · exact up _ V hV
      · exact ⟨Nat.le_trans (ih e).1 (by simp), up e⟩

theorem keepE_le : ∀ (fs : List Fd) (e : Nat), (∀ x ∈ fs, x.p.length < 65536 ∧ x.p.at_ ≤ 4611686018427387904) → e ≤ 4611686018427388904 → keepE fs e ≤ 4611686018427388904
  | [], e, _, he => he
  | x :: r, e, hl, he => by
    have ih := fun e' he' => keepE_le r e' (fun y hy => hl y (List.mem_cons_of_mem _ hy)) he'
    rw [keepE_cons]
    cases hw : wholeOf (x :: r) with
    | none => exact ih e he
    | some W =>
      dsimp only
      split
      · refine ih _ ?_
        obtain ⟨h1, _, y, hy, h3⟩ := whole_parts hw (fun y hy => (hl y hy).1)
        have := (hl y hy).2
        omega
      · exact ih e he

/-- What Open leaves on the disk. -/
def openOut (f : Int) (T : Nat) (s : St) (B : List Nat) : Int × St := if (wipeN f T s B).1 = 0 then barOut (wipeN f T s B).2 else wipeN f T s B

/-- What Open tells. -/
def OpenOut (w : World) (p bs bp : Nat) (s : St) (f : Int) (N fr : Nat) (e : Ending) (w' : World) : Prop :=
  ∃ (L : List Fv) (K : List Wm), (L.map fun x => (x.p, x.blk)).Perm ((idxL (viewP s f) N).map fun i => (viewP s f i, i)) ∧ L.Pairwise leF ∧ K.map whOf = keepL (L.map fdOf) (tailK (viewP s f) N) ∧
    DiskAt w' p bs bp (openOut f (tailK (viewP s f) N) s (restL (K.flatMap Wm.blocks) L)).2 ∧ Sole [p, bs, bp] w w' ∧
    if (openOut f (tailK (viewP s f) N) s (restL (K.flatMap Wm.blocks) L)).1 = 0 then
      ∃ q tv fv rv, e = .returned (.tuple #[.pointer (some ⟨q, 0, none⟩), rv, .int .i64 0]) ∧ w.heap.size ≤ q ∧ LoAt w.heap.size w' q p f N tv fv (logL N fr (tailK (viewP s f) N) (keepE (L.map fdOf) (tailK (viewP s f) N)) K) ∧
        w'.ownsRow w.heap.size 64 2 rv (K.drop (firstK fr K)).length ((K.drop (firstK fr K)).flatMap rcC) ∧ (∀ x ∈ K, WmAt w.heap.size w' x) ∧ GApart K
    else e = .returned (.tuple #[.pointer none, .slice none 0 0, .int .i64 (openOut f (tailK (viewP s f) N) s (restL (K.flatMap Wm.blocks) L)).1])

set_option maxHeartbeats 1000000 in
theorem open_arg {w : World} {p bs bp : Nat} {s : St} (h : DiskAt w p bs bp s) (f c : Int) (fr : Nat) (f0 : -9223372036854775808 ≤ f) (f1 : f ≤ 9223372036854775807) (c0 : -9223372036854775808 ≤ c) (c1 : c ≤ 9223372036854775807) (hE : ringE s f c ≠ 0) :
    Calls Tryz.prog 12 #[ptr p, .int .i64 f, .int .i64 c, .int .u64 fr] w fun e w' => e = .returned (.tuple #[.pointer none, .slice none 0 0, .int .i64 (ringE s f c)]) ∧ Below w.heap.size w w' := by
  have cr := ringOn_any h f c f0 f1 c0 c1
  rw [if_neg hE] at cr
  have hE' : (ringE s f c != 0) = true := by simpa using hE
  generalize ringE s f c = E at *
  unfold ring0 at cr
  unfold ptr at *
  go_enter Tryz.func12, Tryz.ntmps12
  go_wp2_with fail
  refine cr.mono ?_
  rintro e1 w1 ⟨rfl, hb1⟩
  clear cr
  go_wp2
  go_ret3
  exact ⟨rfl, hb1.alloc hb1.size _⟩

set_option maxRecDepth 100000 in
set_option maxHeartbeats 3000000 in
theorem open_ok {w : World} {p bs bp : Nat} {s : St} (h : DiskAt w p bs bp s) (f : Int) (N fr : Nat) (hN4 : 4 ≤ N) (hr : RingOk s f N) (hsm : ∀ i : Nat, i < N → ((viewP s f i).kind ≠ 0 → (viewP s f i).at_ ≤ 4611686018427387904) ∧ (viewP s f i).tail ≤ 4611686018427387904) (hfr : fr ≤ 4611686018427388904) :
    Calls Tryz.prog 12 #[ptr p, .int .i64 f, .int .i64 N, .int .u64 fr] w fun e w' => OpenOut w p bs bp s f N fr e w' := by
  have hb1 := h.good.b1
  have hf0 := hr.f0
  have hfn := hr.fn
  have hE : ringE s f N = 0 := by unfold ringE; rw [if_neg (by omega), hr.on]; rfl
  have cr := ringOn_any h f N (by omega) (by omega) (by omega) (by omega)
  rw [hE, if_pos rfl] at cr
  have hlt := h.lt
  have HD : Hid (DiskAt w p bs bp s) := h
  unfold ringV at cr
  unfold ptr at *
  clear h hE
  go_enter Tryz.func12, Tryz.ntmps12
  go_wp2_with fail
  refine cr.mono ?_
  rintro e1 w1 ⟨rfl, hbw1⟩
  clear cr
  have hs1 := hbw1.size
  obtain ⟨w2, hw2⟩ : ∃ w2, w1.alloc (.cells #[.pointer (some ⟨p, 0, none⟩), .int .i64 f, .int .i64 N] 71) = w2 := ⟨_, rfl⟩
  have hB2 : Below w1.heap.size w1 w2 := by rw [← hw2]; exact (Below.refl _ w1).alloc (Nat.le_refl _) _
  have hg2 : w2.heap[w1.heap.size]? = some (.cells #[.pointer (some ⟨p, 0, none⟩), .int .i64 f, .int .i64 N] 71 (0, 0)) := by rw [← hw2]; exact heap_alloc_new w1 _
  have r0 : w2.cell? ⟨w1.heap.size, 0, none⟩ = some (.pointer (some ⟨p, 0, none⟩)) := by rw [cell_of_row _ _ 0 _ _ (0, 0) hg2]; rfl
  have r1 : w2.cell? ⟨w1.heap.size, 1, none⟩ = some (.int .i64 f) := by rw [cell_of_row _ _ 1 _ _ (0, 0) hg2]; rfl
  have r2 : w2.cell? ⟨w1.heap.size, 2, none⟩ = some (.int .i64 N) := by rw [cell_of_row _ _ 2 _ _ (0, 0) hg2]; rfl
  have hb02 : Below w.heap.size w w2 := thenB hbw1 hB2
  have hs02 := hb02.size
  have cf := findOn_any (HD.out.below hb02) f N hr hsm
  unfold ringV ptr at cf
  clear hg2
  go_wp2_with fail
  refine cf.mono ?_
  rintro e2 w3 ⟨L, K, av, kv, rfl, hF⟩
  clear cf r0 r1 r2
  obtain ⟨hperm, hsort, hkept, hall, hws, hbw3, ⟨a1, c1, rfl⟩, ⟨a2, c2, rfl⟩⟩ := hF
  have hTb : tailK (viewP s f) N ≤ 4611686018427387904 := by
    have : ∀ j, j ≤ N → tailK (viewP s f) j ≤ 4611686018427387904 := by
      intro j hj
      induction j with
      | zero => unfold tailK; omega
      | succ j ih =>
        unfold tailK
        have := (hsm j (by omega)).2
        have := ih (by omega)
        omega
    exact this N (Nat.le_refl _)
  have hLin : ∀ x ∈ L, x.blk < N ∧ x.p.at_ ≤ 4611686018427387904 := fun x hx => by
    have hm := hperm.subset (List.mem_map.2 ⟨x, hx, rfl⟩)
    obtain ⟨i, hi, e⟩ := List.mem_map.1 hm
    simp only [Prod.mk.injEq] at e
    unfold idxL at hi
    have hiN : i < N := by have := (List.mem_filter.1 hi).1; simpa using this
    rw [← e.1, ← e.2]
    exact ⟨hiN, (hsm i hiN).1 (by simpa using (List.mem_filter.1 hi).2)⟩
  have hLl : L.length ≤ N := by
    have := hperm.length_eq
    simp only [List.length_map] at this
    rw [this]
    exact idx_len _ _
  have hfdl : ∀ x ∈ L.map fdOf, x.p.length < 65536 ∧ x.p.at_ ≤ 4611686018427387904 := fun x hx => by
    obtain ⟨y, hy, rfl⟩ := List.mem_map.1 hx
    exact ⟨(hall.each y hy).ok.length, (hLin y hy).2⟩
  have hkp := keep_parts (L.map fdOf) (tailK (viewP s f) N) (fun x hx => (hfdl x hx).1)
  rw [← hkept] at hkp
  have hKl : K.length ≤ 1024 := by have := hkp.1; simp only [List.length_map] at this; omega
  have hKin : ∀ x ∈ K, (x.blocks.length ≤ 1000 ∧ ∀ b ∈ x.blocks, b < N) ∧ x.at_ ≤ 4611686018427387904 := fun x hx => by
    obtain ⟨h1, h2, y, hy, h3⟩ := hkp.2 (whOf x) (List.mem_map.2 ⟨x, hx, rfl⟩)
    refine ⟨⟨h1, fun b hb => ?_⟩, ?_⟩
    · obtain ⟨z, hz, rfl⟩ := h2 b hb
      obtain ⟨u, hu, rfl⟩ := List.mem_map.1 hz
      exact (hLin u hu).1
    · have h3' : x.at_ = y.p.at_ := h3
      rw [h3']; exact (hfdl y hy).2
  have hEb := keepE_le (L.map fdOf) (tailK (viewP s f) N) hfdl (by omega)
  obtain ⟨T, hT⟩ : ∃ T, tailK (viewP s f) N = T := ⟨_, rfl⟩
  have HT : Hid (tailK (viewP s f) N = T) := hT
  rw [hT] at hkept hTb hEb ⊢
  obtain ⟨E, hEe⟩ : ∃ E, keepE (L.map fdOf) T = E := ⟨_, rfl⟩
  have HEe : Hid (keepE (L.map fdOf) T = E) := hEe
  rw [hEe] at hEb ⊢
  clear hsm hfdl hkp hT hEe
  have hs23 := hbw3.size
  obtain ⟨w4, hw4⟩ : ∃ w4, w3.alloc (.cells #[.pointer (some ⟨p, 0, none⟩), .int .i64 f, .int .i64 N, .slice a1 L.length c1, .int .u64 T, .slice a2 K.length c2, .int .u64 E] 88) = w4 := ⟨_, rfl⟩
  have hB4 : Below w3.heap.size w3 w4 := by rw [← hw4]; exact (Below.refl _ w3).alloc (Nat.le_refl _) _
  have hg4 : w4.heap[w3.heap.size]? = some (.cells #[.pointer (some ⟨p, 0, none⟩), .int .i64 f, .int .i64 N, .slice a1 L.length c1, .int .u64 T, .slice a2 K.length c2, .int .u64 E] 88 (0, 0)) := by rw [← hw4]; exact heap_alloc_new w3 _
  have hlt4 : w3.heap.size < w4.heap.size := (Array.getElem?_eq_some_iff.1 hg4).1
  have cell4 : ∀ W, Sole [p, bs, bp] w4 W → ∀ j v, (#[.pointer (some ⟨p, 0, none⟩), .int .i64 f, .int .i64 N, .slice a1 L.length c1, .int .u64 T, .slice a2 K.length c2, .int .u64 E] : Array Value)[j]? = some v → W.cell? ⟨w3.heap.size, j, none⟩ = some v := fun W hW j v hv => by
    rw [cell_of_row _ _ j _ _ (0, 0) ((hW.block _ hlt4 (by simp; omega)).trans hg4)]; exact hv
  have b0 := cell4 w4 (Sole.refl _ _) 0 _ rfl
  have b1 := cell4 w4 (Sole.refl _ _) 1 _ rfl
  have b2 := cell4 w4 (Sole.refl _ _) 2 _ rfl
  have b3 := cell4 w4 (Sole.refl _ _) 3 _ rfl
  have b4 := cell4 w4 (Sole.refl _ _) 4 _ rfl
  have b5 := cell4 w4 (Sole.refl _ _) 5 _ rfl
  have b6 := cell4 w4 (Sole.refl _ _) 6 _ rfl
  have hb04 : Below w.heap.size w w4 := hb02.trans ((hbw3.trans (hB4.mono (by omega))).mono (by omega))
  have HF4 := hall.below hB4
  have HW4 := hws.keep hB4.size (fun j _ hj => hB4.block j hj)
  have cw := wipeRest_any (HD.out.below hb04) (show p < w2.heap.size ∧ bs < w2.heap.size ∧ bp < w2.heap.size by omega) f N T E hf0 (by omega) (by omega) HF4 HW4 (by omega) (fun x hx => (hLin x hx).1) (by omega) (fun x hx => ⟨by have := (hKin x hx).1.1; omega, (hKin x hx).1.2⟩)
  obtain ⟨R, hR⟩ : ∃ R, restL (K.flatMap Wm.blocks) L = R := ⟨_, rfl⟩
  have HR : Hid (restL (K.flatMap Wm.blocks) L = R) := hR
  rw [hR] at cw
  have HOp : Hid (openOut f T s R = if (wipeN f T s R).1 = 0 then barOut (wipeN f T s R).2 else wipeN f T s R) := rfl
  generalize hO : wipeN f T s R = O at *
  obtain ⟨Oe, Os⟩ := O
  unfold ptr at cw
  dsimp only at cw HOp
  clear hO hR HF4
  have HPk : ∀ e w' Ee Es, openOut f T s R = (Ee, Es) → DiskAt w' p bs bp Es → Sole [p, bs, bp] w w' → (if Ee = 0 then ∃ q tv fv rv, e = .returned (.tuple #[.pointer (some ⟨q, 0, none⟩), rv, .int .i64 0]) ∧ w.heap.size ≤ q ∧ LoAt w.heap.size w' q p f N tv fv (logL N fr T E K) ∧ w'.ownsRow w.heap.size 64 2 rv (K.drop (firstK fr K)).length ((K.drop (firstK fr K)).flatMap rcC) ∧ (∀ x ∈ K, WmAt w.heap.size w' x) ∧ GApart K
      else e = .returned (.tuple #[.pointer none, .slice none 0 0, .int .i64 Ee])) → Hid (OpenOut w p bs bp s f N fr e w') := fun e w' Ee Es h1 h2 h3 h4 => by
    refine ⟨L, K, hperm, hsort, ?_, ?_, h3, ?_⟩
    · rw [HT.out]; exact hkept
    · rw [HT.out, HR.out, h1]; exact h2
    · rw [HT.out, HR.out, HEe.out, h1]; exact h4
  go_wp2_with fail
  refine cw.mono ?_
  rintro e4 w5 ⟨rfl, hd5, hS5⟩
  clear cw b0 b1 b2 b3 b4 b5 b6
  have hS05 : Sole [p, bs, bp] w w5 := (Sole.of_below hb04 _).trans hS5
  have hs5 := hS5.size
  by_cases h0 : Oe = 0
  · subst h0
    rw [if_pos rfl] at HOp
    have cb := disk_Barrier hd5
    generalize hO2 : barOut Os = O2 at *
    obtain ⟨Be, Bs⟩ := O2
    unfold ptr at cb
    dsimp only at cb
    clear hO2
    go_wp2_with fail
    refine cb.mono ?_
    rintro e5 w6 ⟨rfl, hd6, hS6⟩
    clear cb
    have hS46 : Sole [p, bs, bp] w4 w6 := hS5.trans hS6
    have hS06 : Sole [p, bs, bp] w w6 := hS05.trans hS6
    have hs6 := hS6.size
    by_cases h1 : Be = 0
    · subst h1
      have HW6 : WsAt w2.heap.size w6 (.slice a2 K.length c2) K := HW4.keep hS46.size (fun j hj hl => hS46.block j hl (by simp; omega))
      have cl := log_any (w := w6.drew) (p := p) (f := f) (N := N) (T := T) (E := E) (fr := fr) (av := .slice a1 L.length c1) ⟨_, _, _, rfl⟩ (show WsAt w2.heap.size w6.drew (.slice a2 K.length c2) K from HW6.keep (Nat.le_refl _) (fun _ _ _ => rfl)) (show w2.heap.size ≤ w6.heap.size by omega) (by omega) (by omega) hKl (fun x hx => (hKin x hx).1) (fun x hx => (hKin x hx).2) hfr hEb
      have s0 : ∀ j v, (#[.pointer (some ⟨p, 0, none⟩), .int .i64 f, .int .i64 N, .slice a1 L.length c1, .int .u64 T, .slice a2 K.length c2, .int .u64 E] : Array Value)[j]? = some v → ∀ W, Below w6.heap.size w6 W → W.cell? ⟨w3.heap.size, j, none⟩ = some v := fun j v hv W hW => (hW.cell (p := ⟨w3.heap.size, j, none⟩) (show w3.heap.size < w6.heap.size by omega)).trans (cell4 w6 hS46 j v hv)
      have s00 := s0 0 _ rfl
      have s01 := s0 1 _ rfl
      have s02 := s0 2 _ rfl
      have s03 := s0 3 _ rfl
      have s04 := s0 4 _ rfl
      have s05 := s0 5 _ rfl
      have s06 := s0 6 _ rfl
      clear s0 cell4
      go_wp2_with fail
      refine wp_region_noPanic ?_
      refine wp_region_held_drew (S := fun W => Below w6.heap.size w6 W) (by kernel_rfl) (Below.refl _ _).drew (fun hHeld => ?_)
      refine wpAnyH_take (i := 0) (v := .agg #[.pointer (some ⟨p, 0, none⟩), .int .i64 f, .int .i64 N, .slice a1 L.length c1, .int .u64 T, .slice a2 K.length c2, .int .u64 E]) rfl (by kernel_rfl) (by kernel_rfl) (by kernel_rfl) (fun _ _ _ h => h) (Or.inl ⟨by rfl, fun W hSw => by (try dsimp only at hSw); go_simp⟩) (by assumption) ?_
      simp only [List.getElem_toArray, List.getElem_cons_zero, List.getElem_cons_succ, Act.put, List.setIfInBounds_toArray, List.set_cons_zero, List.set_cons_succ]
      refine wpAnyH_take (i := 1) (v := .int .u64 fr) rfl (by kernel_rfl) (by kernel_rfl) (by kernel_rfl) (fun _ _ _ h => h) (Or.inl ⟨by rfl, fun W hSw => by (try dsimp only at hSw); go_simp⟩) (by assumption) ?_
      simp only [List.getElem_toArray, List.getElem_cons_zero, List.getElem_cons_succ, Act.put, List.setIfInBounds_toArray, List.set_cons_zero, List.set_cons_succ]
      refine wpAnyH_take (i := 3) (v := .agg #[.pointer (some ⟨p, 0, none⟩), .int .i64 f, .int .i64 N, .slice a1 L.length c1, .int .u64 T, .slice a2 K.length c2, .int .u64 E]) rfl (by kernel_rfl) (by kernel_rfl) (by kernel_rfl) (fun _ _ _ h => h) (Or.inl ⟨by rfl, fun W hSw => by (try dsimp only at hSw); go_simp⟩) (by assumption) ?_
      simp only [List.getElem_toArray, List.getElem_cons_zero, List.getElem_cons_succ, Act.put, List.setIfInBounds_toArray, List.set_cons_zero, List.set_cons_succ]
      refine wpAnyH_take (i := 4) (v := .int .u64 fr) rfl (by kernel_rfl) (by kernel_rfl) (by kernel_rfl) (fun _ _ _ h => h) (Or.inl ⟨by rfl, fun W hSw => by (try dsimp only at hSw); go_simp⟩) (by assumption) ?_
      simp only [List.getElem_toArray, List.getElem_cons_zero, List.getElem_cons_succ, Act.put, List.setIfInBounds_toArray, List.set_cons_zero, List.set_cons_succ]
      refine wpAnyH_ready (rs := [2]) (by kernel_rfl) (by simp) ?_
      refine AllReadyH.cons rfl (fun K hK => ?_) AllReadyH.nil
      go_simp
      go_wp2_with (go_at_call 35; refine cl.mono ?_; rintro e7 w7 ⟨q, tv, fv, rfl, hq, hLo, hb7⟩)
      refine hK.out _ _ (keep2 (by assumption) (by assumption)) (fun hHeld2 => ?_)
      clear hK K
      have hb67 : Below w6.heap.size w6 w7 := thenB (Below.refl _ w6).drew hb7
      have HW7 := HW6.keep hb67.size (fun j _ hj => hb67.block j hj)
      have cc := records_any (w := w7) (p := p) (f := f) (N := N) (T := T) (E := E) (fr := fr) (av := .slice a1 L.length c1) ⟨_, _, _, rfl⟩ HW7 hKl
      refine wpAnyH_ready (rs := [5]) (by kernel_rfl) (by simp) ?_
      refine AllReadyH.cons rfl (fun K hK => ?_) AllReadyH.nil
      go_simp
      go_wp2_with (go_at_call 36; refine cc.mono ?_; rintro e8 w8 ⟨rv, rfl, hrv, hb8⟩; obtain ⟨ra, rc, rfl⟩ := own_shape hrv)
      refine hK.out _ _ (keep2 (by assumption) (by assumption)) (fun hHeld2 => ?_)
      clear hK K
      refine wpAnyH_take (i := 6) (v := .pointer (some ⟨q, 0, none⟩)) rfl (by kernel_rfl) (by kernel_rfl) (by kernel_rfl) (fun _ _ _ h => h) (Or.inl ⟨by rfl, fun W hSw => by (try dsimp only at hSw); go_simp⟩) (by assumption) ?_
      simp only [List.getElem_toArray, List.getElem_cons_zero, List.getElem_cons_succ, Act.put, List.setIfInBounds_toArray, List.set_cons_zero, List.set_cons_succ]
      refine wpAnyH_take (i := 7) (v := .slice ra (K.drop (firstK fr K)).length rc) rfl (by kernel_rfl) (by kernel_rfl) (by kernel_rfl) (fun _ _ _ h => h) (Or.inl ⟨by rfl, fun W hSw => by (try dsimp only at hSw); go_simp⟩) (by assumption) ?_
      simp only [List.getElem_toArray, List.getElem_cons_zero, List.getElem_cons_succ, Act.put, List.setIfInBounds_toArray, List.set_cons_zero, List.set_cons_succ]
      refine wpAnyH_take (i := 8) (v := .int .i64 0) rfl (by kernel_rfl) (by kernel_rfl) (by kernel_rfl) (fun _ _ _ h => h) (Or.inl ⟨by rfl, fun W hSw => by (try dsimp only at hSw); go_simp⟩) (by assumption) ?_
      simp only [List.getElem_toArray, List.getElem_cons_zero, List.getElem_cons_succ, Act.put, List.setIfInBounds_toArray, List.set_cons_zero, List.set_cons_succ]
      refine wpAnyH_done (by kernel_rfl) ?_ _
      refine NoPanic.normal ?_
      clear s00 s01 s02 s03 s04 s05 s06 cl cc
      have hb68 : Below w6.heap.size w6 w8 := thenB hb67 hb8
      have hs7 := hb67.size
      have hq6 : w6.heap.size ≤ q := hq
      have HOU := HPk (.returned (.tuple #[.pointer (some ⟨q, 0, none⟩), .slice ra (K.drop (firstK fr K)).length rc, .int .i64 0])) w8 0 Bs HOp (hd6.below hb68) (hS06.trans (Sole.of_below hb68 _)) (by
        rw [if_pos rfl]
        refine ⟨q, tv, fv, _, rfl, by omega, (hLo.below hb8).mono (by omega), own_mono hrv (by omega), fun x hx => ?_, HW7.apart⟩
        have h7 := HW7.each x hx
        exact ⟨own_mono (own_keep h7.b hb8.size (fun j _ hj => hb8.block j hj)) (by omega), own_mono (own_keep h7.g hb8.size (fun j _ hj => hb8.block j hj)) (by omega)⟩)
      clear hLo hrv HPk
      go_wp2
      go_ret3
      exact HOU.out
    · have h1' : (Be != 0) = true := by simpa using h1
      have HOU := HPk (.returned (.tuple #[.pointer none, .slice none 0 0, .int .i64 Be])) w6 Be Bs HOp hd6 hS06 (by rw [if_neg h1])
      clear HPk
      go_wp2
      go_ret3
      exact HOU.out
  · rw [if_neg h0] at HOp
    have h0' : (Oe != 0) = true := by simpa using h0
    have HOU := HPk (.returned (.tuple #[.pointer none, .slice none 0 0, .int .i64 Oe])) w5 Oe Os HOp hd5 hS05 (by rw [if_neg h0])
    clear HPk
    go_wp2
    go_ret3
    exact HOU.out

theorem wipe_wr (f : Int) (T : Nat) : ∀ (B : List Nat) (s : St), wipeN f T s B = wrS f (B.map fun b => (b, zeroP T)) s
  | [], s => rfl
  | b :: B, s => by
    rw [List.map_cons]
    show (if _ = 0 then wipeN f T _ B else _) = (if _ = 0 then wrS f _ _ else _)
    rw [wipe_wr f T B]

/-- What Open wipes, and what it leaves. -/
theorem run_open {s : St} {f : Int} {N T : Nat} {K : List Rr} (hN : 0 < N) (hc : Calm s f N) (hg : Good s) (hun : ∀ i, i < N → unE (seen s (f + i)) = 0) (hT : T < 18446744073709551616) (hF : FI (viewP s f) N T K) {L : List Fv} {Kw : List Wm} (hp : (L.map fun x => (x.p, x.blk)).Perm ((idxL (viewP s f) N).map fun i => (viewP s f i, i))) (hk : Kw.map whOf = K.map Rr.wh) (fr : Nat)
    (hgd1 : Good (wipeN f T s (restL (Kw.flatMap Wm.blocks) L)).2) (hgd : Good (allSafe (wipeN f T s (restL (Kw.flatMap Wm.blocks) L)).2)) (hcalm : Calm (allSafe (wipeN f T s (restL (Kw.flatMap Wm.blocks) L)).2) f N) (hpend : ∀ i, (allSafe (wipeN f T s (restL (Kw.flatMap Wm.blocks) L)).2).pend i = none) :
    (wipeN f T s (restL (Kw.flatMap Wm.blocks) L)).1 = 0 ∧ Run (allSafe (wipeN f T s (restL (Kw.flatMap Wm.blocks) L)).2) f N T K [] (K.take (firstK fr Kw)) (K.drop (firstK fr Kw)) (logL N fr T (chainE T K) Kw) := by
  have hD : Kw.flatMap Wm.blocks = K.flatMap Rr.blocks := by
    have := congrArg (List.flatMap (fun w : Wh => w.blocks)) hk
    rw [List.flatMap_map, List.flatMap_map] at this
    exact this
  have hblk : (L.map Fv.blk).Perm (idxL (viewP s f) N) := by
    have := hp.map Prod.snd
    rw [List.map_map, List.map_map] at this
    have e1 : (idxL (viewP s f) N).map (Prod.snd ∘ fun i => (viewP s f i, i)) = idxL (viewP s f) N := by
      have : (Prod.snd ∘ fun i => (viewP s f i, i)) = fun i : Nat => i := rfl
      rw [this, List.map_id']
    rw [e1] at this
    exact this
  have hidx : ∀ i, i ∈ idxL (viewP s f) N ↔ i < N ∧ (viewP s f i).kind ≠ 0 := fun i => by
    unfold idxL
    rw [List.mem_filter, List.mem_range]
    simp
  have hrest : ∀ i, i ∈ restL (Kw.flatMap Wm.blocks) L ↔ i < N ∧ (viewP s f i).kind ≠ 0 ∧ ∀ r ∈ K, i ∉ r.blocks := fun i => by
    unfold restL
    rw [List.mem_filter, hblk.mem_iff, hidx, hD]
    simp only [List.mem_flatMap, not_exists, not_and, decide_eq_true_eq, and_assoc]
  have hnd : (restL (Kw.flatMap Wm.blocks) L).Nodup := by
    unfold restL
    have h1 : (L.map Fv.blk).Nodup := hblk.nodup_iff.2 (by unfold idxL; exact List.nodup_range.filter _)
    exact h1.filter _
  generalize restL (Kw.flatMap Wm.blocks) L = B at *
  have hz := zeroP_ok hT
  rw [wipe_wr] at *
  obtain ⟨w1, w2, w3, w4, w5⟩ := wrS_calm (B.map fun b => (b, zeroP T)) hc (fun x hx => by
    obtain ⟨b, hb, rfl⟩ := List.mem_map.1 hx
    exact ⟨((hrest b).1 hb).1, hz⟩) (by
    rw [List.map_map]
    have : (Prod.fst ∘ fun b : Nat => (b, zeroP T)) = fun b => b := rfl
    rw [this, List.map_id']
    exact hnd)
  generalize hs1 : (wrS f (B.map fun b => (b, zeroP T)) s).2 = s1 at *
  have hin : ∀ i ∈ B, seen s1 (f + (i : Nat)) = encP (zeroP T) := fun i hi => by
    have := w4 (i, zeroP T) (List.mem_map.2 ⟨i, hi, rfl⟩)
    unfold seen
    rw [this]
    rfl
  have hout : ∀ i : Nat, i ∉ B → seen s1 (f + i) = seen s (f + i) := fun i hi => by
    unfold seen
    rw [w3, w5 (f + i) (fun x hx q => hi (by
      obtain ⟨b, hb, rfl⟩ := List.mem_map.1 hx
      have : i = b := by simp only at q; omega
      rw [this]; exact hb))]
  have hsafe2 : ∀ i, (allSafe s1).safe i = seen s1 i := fun i => allSafe_safe hgd1 i
  have hseen2 : ∀ i, seen (allSafe s1) i = seen s1 i := fun i => by unfold seen; rw [hpend i]; exact hsafe2 i
  have hV : ∀ i, safeV (allSafe s1) f i = viewP s1 f i := fun i => by unfold safeV viewP; rw [hsafe2]
  have hVV : viewP (allSafe s1) f = safeV (allSafe s1) f := by funext i; rw [hV]; unfold viewP; rw [hseen2]
  have hVin : ∀ i ∈ B, (safeV (allSafe s1) f i).kind = 0 ∧ (safeV (allSafe s1) f i).tail = T := fun i hi => by
    rw [hV]
    unfold viewP
    rw [hin i hi, (enc_view hz).2]
    exact ⟨rfl, rfl⟩
  have hVout : ∀ i, i ∉ B → safeV (allSafe s1) f i = viewP s f i := fun i hi => by
    rw [hV]
    unfold viewP
    rw [hout i hi]
  have hw : Wiped N T K (viewP s f) (safeV (allSafe s1) f) := fun i hi => by
    by_cases hb : i ∈ B
    · exact .inr ⟨((hrest i).1 hb).2.2, ((hrest i).1 hb).2.1, (hVin i hb).1, (hVin i hb).2⟩
    · exact .inl (hVout i hb)
  have hSI : SI (safeV (allSafe s1) f) N T K := fi_safe hF hw (fun i hi hnot => by
    by_cases hb : i ∈ B
    · exact (hVin i hb).1
    · rw [hVout i hb]
      by_cases hkd : (viewP s f i).kind = 0
      · exact hkd
      · exact absurd ((hrest i).2 ⟨hi, hkd, hnot⟩) hb)
  have hun1 : ∀ i, i < N → unE (seen s1 (f + i)) = 0 := fun i hi => by
    by_cases hb : i ∈ B
    · rw [hin i hb]; exact (enc_view hz).1
    · rw [hout i hb]; exact hun i hi
  refine ⟨w1, hcalm, hgd, fun i hi => by rw [hseen2]; exact hun1 i hi, fun i hi => by rw [hsafe2]; exact hun1 i hi, hSI, ni_nil _ _ _, List.Pairwise.nil, li_open hN hSI.ok hSI.chain hSI.whole hk fr, by rw [hVV]; exact now_nil _ _⟩

theorem calm_safe {s : St} {f : Int} {N : Nat} (h : Calm s f N) : Calm (allSafe s) f N := by
  unfold allSafe
  exact ⟨by rw [settleN_off]; exact h.on, by rw [settleN_armed]; exact h.un, h.f0, by rw [settleN_blocks]; exact h.fn⟩
theorem calm_bar {s : St} {f : Int} {N : Nat} (h : Calm s f N) : barOut s = (0, allSafe s) := by
  have h2 : due s = false := by unfold due; rw [h.un]; rfl
  unfold barOut
  rw [h.on, h2]
  simp

/-- Sync. -/
theorem run_bar {s : St} {f : Int} {N T : Nat} {K New G D : List Rr} {l : Lo} (h : Run s f N T K New G D l) (hgd : Good (barOut s).2) : (barOut s).1 = 0 ∧ ∃ U K' G', Run (barOut s).2 f N U K' [] G' D l ∧ chainE U K' = chainE T (K ++ New) := by
  rw [calm_bar h.calm] at hgd ⊢
  exact ⟨rfl, run_sync h hgd (calm_safe h.calm) (allSafe_pend h.good)⟩

/-- Open. -/
theorem run_opened {s : St} {f : Int} {N T : Nat} {K : List Rr} (hN : 0 < N) (hc : Calm s f N) (hg : Good s) (hun : ∀ i, i < N → unE (seen s (f + i)) = 0) (hT : T < 18446744073709551616) (hF : FI (viewP s f) N T K) {L : List Fv} {Kw : List Wm} (hp : (L.map fun x => (x.p, x.blk)).Perm ((idxL (viewP s f) N).map fun i => (viewP s f i, i))) (hs : L.Pairwise leF) (hk : Kw.map whOf = keepL (L.map fdOf) (tailK (viewP s f) N)) (fr : Nat)
    (hgd1 : Good (wipeN f T s (restL (Kw.flatMap Wm.blocks) L)).2) (hgd : Good (openOut f T s (restL (Kw.flatMap Wm.blocks) L)).2) :
    (openOut f T s (restL (Kw.flatMap Wm.blocks) L)).1 = 0 ∧ Kw.map whOf = K.map Rr.wh ∧ keepE (L.map fdOf) (tailK (viewP s f) N) = chainE T K ∧ Run (openOut f T s (restL (Kw.flatMap Wm.blocks) L)).2 f N T K [] (K.take (firstK fr Kw)) (K.drop (firstK fr Kw)) (logL N fr T (chainE T K) Kw) := by
  obtain ⟨k1, k2⟩ := fi_found hF hp hs
  rw [k1] at hk
  have hD : Kw.flatMap Wm.blocks = K.flatMap Rr.blocks := by
    have := congrArg (List.flatMap (fun w : Wh => w.blocks)) hk
    rw [List.flatMap_map, List.flatMap_map] at this
    exact this
  have hz := zeroP_ok hT
  have hblk : ∀ b ∈ restL (Kw.flatMap Wm.blocks) L, b < N := fun b hb => by
    unfold restL at hb
    obtain ⟨x, hx, e⟩ := List.mem_map.1 (List.mem_filter.1 hb).1
    obtain ⟨i, hi, e2⟩ := List.mem_map.1 (hp.mem_iff.1 (List.mem_map.2 ⟨x, hx, rfl⟩))
    unfold idxL at hi
    have := List.mem_range.1 (List.mem_filter.1 hi).1
    simp only [Prod.mk.injEq] at e2
    omega
  have hnd : (restL (Kw.flatMap Wm.blocks) L).Nodup := by
    have hb2 : (L.map Fv.blk).Perm (idxL (viewP s f) N) := by
      have := hp.map Prod.snd
      rw [List.map_map, List.map_map] at this
      have e1 : (Prod.snd ∘ fun i => (viewP s f i, i)) = fun i : Nat => i := rfl
      rw [e1, List.map_id'] at this
      exact this
    have h1 : (L.map Fv.blk).Nodup := hb2.nodup_iff.2 (by unfold idxL; exact List.nodup_range.filter _)
    unfold restL
    exact h1.filter _
  have hwc := wrS_calm ((restL (Kw.flatMap Wm.blocks) L).map fun b => (b, zeroP T)) hc (fun x hx => by
    obtain ⟨b, hb, rfl⟩ := List.mem_map.1 hx
    exact ⟨hblk b hb, hz⟩) (by
    rw [List.map_map]
    have : (Prod.fst ∘ fun b : Nat => (b, zeroP T)) = fun b => b := rfl
    rw [this, List.map_id']
    exact hnd)
  rw [← wipe_wr] at hwc
  have ho : openOut f T s (restL (Kw.flatMap Wm.blocks) L) = (0, allSafe (wipeN f T s (restL (Kw.flatMap Wm.blocks) L)).2) := by
    unfold openOut
    rw [if_pos hwc.1]
    exact calm_bar hwc.2.1
  rw [ho] at hgd ⊢
  exact ⟨rfl, hk, k2, (run_open hN hc hg hun hT hF hp hk fr hgd1 hgd (calm_safe hwc.2.1) (allSafe_pend hgd1)).2⟩

theorem si_fi {V : Nat → Pc} {N T : Nat} {K : List Rr} (h : SI V N T K) : FI V N T K :=
  ⟨h.ok, h.chain, h.whole, fun i hi hnot hk => by
    have hl := h.low i hi hnot hk
    exact ⟨fun r hr => by have := chain_ge h.ok h.chain r hr; omega, .inr (.inl hl)⟩, h.tail⟩

/-- What a log's ring shows: records that are gone, and then all that are there. -/
theorem run_fi {s : St} {f : Int} {N T : Nat} {K New G D : List Rr} {l : Lo} (h : Run s f N T K New G D l) : ∃ G', FI (viewP s f) N (tailK (viewP s f) N) (G' ++ D) ∧ chainE (tailK (viewP s f) N) (G' ++ D) = chainE T (K ++ New) ∧ tailK (viewP s f) N ≤ l.tail ∧ ∀ a ∈ G', a ∈ G := by
  obtain ⟨n1, n2, n3⟩ := now_safe h.si h.ni h.now h.ov
  have hU := now_tail h.si.tail h.now.shows h.li.tnew h.li.t0
  have hl := (li_sync h.li h.ok h.chain n2 hU n3).all
  rw [List.append_nil] at hl
  rw [hl] at n1 n3
  exact ⟨_, si_fi n1, n3, hU, fun a ha => (List.mem_filter.1 ha).1⟩

theorem make_wr (f : Int) : ∀ (n : Nat) (s : St) (i : Nat), makeN f n s i = wrS f ((List.range' i n).map fun b => (b, zeroP 0)) s
  | 0, s, i => rfl
  | n + 1, s, i => by
    rw [List.range'_succ, List.map_cons]
    show (if _ = 0 then makeN f n _ (i + 1) else _) = (if _ = 0 then wrS f _ _ else _)
    rw [make_wr f n]

/-- A ring that holds nothing. -/
theorem run_fresh {s : St} {f : Int} {N : Nat} (hc : Calm s f N) (hg : Good s) (hp : ∀ i, s.pend i = none) (hs : ∀ i, i < N → s.safe (f + (i : Nat)) = encP (zeroP 0)) (gr : Bool) : Run s f N 0 [] [] [] [] ⟨[], zeroSl N, 0, 0, gr⟩ := by
  have hz : PcOk (zeroP 0) := zeroP_ok (by decide)
  have hsn : ∀ i, seen s i = s.safe i := fun i => by unfold seen; rw [hp]; rfl
  have hv : ∀ i, i < N → safeV s f i = full (zeroP 0) := fun i hi => by unfold safeV; rw [hs i hi, (enc_view hz).2]
  have hvv : viewP s f = safeV s f := by funext i; unfold viewP safeV; rw [hsn]
  have ht : tailK (safeV s f) N = 0 := by
    rcases tailK_is (safeV s f) N with e | ⟨i, hi, e⟩
    · exact e
    · rw [hv i hi] at e; exact e.symm
  refine ⟨hc, hg, fun i hi => by rw [hsn, hs i hi]; exact (enc_view hz).1, fun i hi => by rw [hs i hi]; exact (enc_view hz).1, ⟨(fun r hr => by cases hr), trivial, (fun r hr => by cases hr), fun i hi _ hk => ?_, ht⟩, ni_nil _ _ _, List.Pairwise.nil, ⟨rfl, rfl, fun _ => rfl, fun _ => ⟨rfl, Nat.le_refl _⟩, Nat.le_refl _, .inl rfl, (fun n hn => by cases hn), ?_, fun x hx => ?_, fun x hx r hr => by cases hr⟩, by rw [hvv]; exact now_nil _ _⟩
  · rw [hv i hi] at hk; exact absurd rfl hk
  · show ((zeroSl N).map Sl.block ++ []).Perm (List.range N)
    unfold zeroSl
    rw [List.append_nil, List.map_map]
    have : (Sl.block ∘ fun i => (⟨i, 0⟩ : Sl)) = fun i : Nat => i := rfl
    rw [this, List.map_id']
  · left
    have hx : x ∈ zeroSl N := hx
    unfold zeroSl at hx
    obtain ⟨i, _, rfl⟩ := List.mem_map.1 hx
    exact Nat.zero_le _

/-- Make on a calm disk. -/
theorem run_make {s : St} {f : Int} {N : Nat} (hc : Calm s f N) (hgd1 : Good (makeN f N s 0).2) (hgd : Good (makeOut f N s).2) (gr : Bool) : (makeOut f N s).1 = 0 ∧ Run (makeOut f N s).2 f N 0 [] [] [] [] ⟨[], zeroSl N, 0, 0, gr⟩ := by
  have hz : PcOk (zeroP 0) := zeroP_ok (by decide)
  have hw := wrS_calm ((List.range' 0 N).map fun b => (b, zeroP 0)) hc (fun x hx => by
    obtain ⟨b, hb, rfl⟩ := List.mem_map.1 hx
    rw [List.mem_range'_1] at hb
    exact ⟨by omega, hz⟩) (by
    rw [List.map_map]
    have : (Prod.fst ∘ fun b : Nat => (b, zeroP 0)) = fun b => b := rfl
    rw [this, List.map_id', ← List.range_eq_range']
    exact List.nodup_range)
  rw [← make_wr] at hw
  obtain ⟨w1, w2, w3, w4, w5⟩ := hw
  have ho : makeOut f N s = (0, allSafe (makeN f N s 0).2) := by
    unfold makeOut
    rw [if_pos w1]
    exact calm_bar w2
  rw [ho] at hgd ⊢
  refine ⟨rfl, run_fresh (calm_safe w2) hgd (allSafe_pend hgd1) (fun i hi => ?_) gr⟩
  rw [allSafe_safe hgd1]
  unfold seen
  have := w4 (i, zeroP 0) (List.mem_map.2 ⟨i, by rw [List.mem_range'_1]; omega, rfl⟩)
  rw [this]
  rfl

/-- Behind a cut each block shows what was safe or what was written last. -/
theorem run_cut {s s' : St} {f : Int} {N T : Nat} {K New G D : List Rr} {l : Lo} (h : Run s f N T K New G D l) (hp : ∀ i, s'.pend i = none) (hs : ∀ i, s'.safe i = s.safe i ∨ ∃ c, s.pend i = some c ∧ s'.safe i = c) : Shows N (safeV s f) (viewP s' f) New ∧ ∀ i, i < N → unE (seen s' (f + i)) = 0 := by
  have hsn : ∀ i, seen s' i = s'.safe i := fun i => by unfold seen; rw [hp]; rfl
  have hcase : ∀ i : Int, seen s' i = s.safe i ∨ seen s' i = seen s i := fun i => by
    rw [hsn]
    rcases hs i with q | ⟨c, q1, q2⟩
    · exact .inl q
    · right; unfold seen; rw [q1, q2]; rfl
  refine ⟨fun i hi => ?_, fun i hi => ?_⟩
  · rcases hcase (f + i) with q | q
    · left; unfold viewP safeV; rw [q]
    · have hv : viewP s' f i = viewP s f i := by unfold viewP; rw [q]
      rw [hv]
      exact h.now.shows i hi
  · rcases hcase (f + i) with q | q
    · rw [q]; exact h.unS i hi
    · rw [q]; exact h.un i hi

/-- So a log that is opened behind a cut has some that are gone, then what was safe of those that are there, then the first ones of the others. -/
theorem cut_fi {s s' : St} {f : Int} {N T : Nat} {K New G D : List Rr} {l : Lo} (h : Run s f N T K New G D l) (hp : ∀ i, s'.pend i = none) (hs : ∀ i, s'.safe i = s.safe i ∨ ∃ c, s.pend i = some c ∧ s'.safe i = c) : ∃ A B, New = A ++ B ∧ FI (viewP s' f) N (tailK (viewP s' f) N) ((K ++ A).filter (fun r => decide (tailK (viewP s' f) N ≤ r.at_))) ∧ chainE (tailK (viewP s' f) N) ((K ++ A).filter (fun r => decide (tailK (viewP s' f) N ≤ r.at_))) = chainE T (K ++ A) ∧ tailK (viewP s' f) N ≤ l.tail := by
  obtain ⟨h1, _⟩ := run_cut h hp hs
  obtain ⟨A, B, e, hF, _, hc, _⟩ := shows_fi h.si h.ni h1
  exact ⟨A, B, e, hF, hc, now_tail h.si.tail h1 h.li.tnew h.li.t0⟩

theorem chainE_ge : ∀ {K : List Rr} {e c : Nat}, (∀ r ∈ K, RrOk c r) → Chain e K → e ≤ chainE e K ∧ ∀ r ∈ K, r.fin ≤ chainE e K
  | [], e, c, _, _ => ⟨Nat.le_refl _, fun r hr => by cases hr⟩
  | s :: K, e, c, hk, hc => by
    have ih := chainE_ge (fun r hr => hk r (List.mem_cons_of_mem _ hr)) hc.2
    have h1 := (hk s List.mem_cons_self).finlt
    have h2 := hc.1
    have h3 := ih.1
    show e ≤ chainE s.fin K ∧ ∀ r ∈ s :: K, r.fin ≤ chainE s.fin K
    refine ⟨by omega, fun r hr => ?_⟩
    rcases List.mem_cons.1 hr with rfl | hr
    · exact h3
    · exact ih.2 r hr

theorem used_flat : ∀ K : List Tm, usedN K = (K.flatMap Tm.blocks).length
  | [] => rfl
  | x :: K => by
    rw [List.flatMap_cons, List.length_append, ← used_flat K]
    rfl
theorem used_ge : ∀ K : List Tm, (∀ x ∈ K, 0 < x.blocks.length) → K.length ≤ usedN K ∧ ∀ x ∈ K, x.blocks.length ≤ usedN K
  | [], _ => ⟨Nat.le_refl _, fun x hx => by cases hx⟩
  | y :: K, h => by
    have ih := used_ge K (fun x hx => h x (List.mem_cons_of_mem _ hx))
    have h1 := h y List.mem_cons_self
    show (y :: K).length ≤ y.blocks.length + usedN K ∧ ∀ x ∈ y :: K, x.blocks.length ≤ y.blocks.length + usedN K
    refine ⟨by simp only [List.length_cons]; omega, fun x hx => ?_⟩
    rcases List.mem_cons.1 hx with rfl | hx
    · omega
    · have := ih.2 x hx; omega

structure RunBd (N T : Nat) (K New G D : List Rr) (l : Lo) : Prop where
  ce : chainE T (K ++ New) ≤ l.next
  t : T ≤ l.next
  tail : l.tail ≤ l.next
  fins : ∀ r ∈ K ++ New, r.fin ≤ l.next
  ats : ∀ r ∈ K ++ New, r.at_ < r.fin
  tails : ∀ n ∈ New, n.tail ≤ l.next
  free : ∀ x ∈ l.free, x.block < N ∧ x.fin ≤ l.next
  used : usedN l.there + l.free.length = N
  len : l.there.length ≤ N
  each : ∀ x ∈ l.there, x.blocks.length ≤ N ∧ x.at_ ≤ l.next

theorem run_bd {s : St} {f : Int} {N T : Nat} {K New G D : List Rr} {l : Lo} (h : Run s f N T K New G D l) : RunBd N T K New G D l := by
  have hok := h.ok
  have hge := chainE_ge hok h.chain
  have hce : chainE T (K ++ New) ≤ l.next := by
    cases hg : l.grown
    · exact (h.li.grown0 hg).2
    · rw [h.li.grown1 hg]; exact Nat.le_refl _
  have hG : ∀ r ∈ G, r ∈ K ++ New := fun r hr => by rw [h.li.all]; exact List.mem_append_left _ hr
  have hDm : ∀ r ∈ D, r ∈ K ++ New := fun r hr => by rw [h.li.all]; exact List.mem_append_right _ hr
  have hfin : ∀ r ∈ K ++ New, r.fin ≤ l.next := fun r hr => Nat.le_trans (hge.2 r hr) hce
  have htl : l.tail ≤ l.next := by
    rcases h.li.tend with e | ⟨r, hr, e⟩
    · have := hge.1; omega
    · have := hfin r (hG r hr); omega
  have hfl : l.there.flatMap Tm.blocks = D.flatMap Rr.blocks := by
    have := congrArg (List.flatMap (fun x : Nat × List Nat => x.2)) h.li.there
    rw [List.flatMap_map, List.flatMap_map] at this
    exact this
  have hus : usedN l.there + l.free.length = N := by
    have := h.li.perm.length_eq
    rw [List.length_append, List.length_map, List.length_range] at this
    rw [used_flat, hfl]
    omega
  have hmem : ∀ x ∈ l.there, ∃ r ∈ D, r.at_ = x.at_ ∧ r.blocks = x.blocks := fun x hx => by
    have hm : (x.at_, x.blocks) ∈ l.there.map (fun t => (t.at_, t.blocks)) := List.mem_map.2 ⟨x, hx, rfl⟩
    rw [h.li.there] at hm
    obtain ⟨r, hr, e⟩ := List.mem_map.1 hm
    simp only [Prod.mk.injEq] at e
    exact ⟨r, hr, e⟩
  have hug := used_ge l.there (fun x hx => by
    obtain ⟨r, hr, _, e⟩ := hmem x hx
    rw [← e]
    exact (hok r (hDm r hr)).pos)
  refine ⟨hce, Nat.le_trans hge.1 hce, htl, hfin, fun r hr => (hok r hr).finlt, fun n hn => Nat.le_trans (h.li.tnew n hn) htl, fun x hx => ⟨?_, ?_⟩, hus, by have := hug.1; omega, fun x hx => ⟨by have := hug.2 x hx; omega, ?_⟩⟩
  · have := h.li.perm.mem_iff.1 (List.mem_append_left _ (List.mem_map.2 ⟨x, hx, rfl⟩))
    exact List.mem_range.1 this
  · rcases h.li.fins x hx with q | ⟨r, hr, q⟩
    · omega
    · have := hfin r (hG r hr); omega
  · obtain ⟨r, hr, e, _⟩ := hmem x hx
    have h1 := hfin r (hDm r hr)
    have h2 := (hok r (hDm r hr)).finlt
    omega

/-- What is shown is bounded as the records are. -/
theorem shows_bd {S V : Nat → Pc} {N T M : Nat} {K New : List Rr} (hS : SI S N T K) (hV : Shows N S V New) (hT : T ≤ M) (hK : ∀ r ∈ K, r.at_ ≤ M) (hn : ∀ n ∈ New, n.at_ ≤ M ∧ n.tail ≤ M) : ∀ i, i < N → ((V i).kind ≠ 0 → (V i).at_ ≤ M) ∧ (V i).tail ≤ M := fun i hi => by
  rcases hV i hi with q | ⟨n, hnn, j, hj, _, q⟩
  · rw [q]
    refine ⟨fun hk => ?_, ?_⟩
    · by_cases hin : ∃ r ∈ K, i ∈ r.blocks
      · obtain ⟨r, hr, hir⟩ := hin
        obtain ⟨j, hj, e⟩ := mem_getD hir
        have hw := hS.whole r hr j hj
        rw [e] at hw
        rw [hw]
        exact hK r hr
      · have := hS.low i hi (fun r hr hb => hin ⟨r, hr, hb⟩) hk
        omega
    · have := tailK_ge S N i hi
      rw [hS.tail] at this
      omega
  · rw [q]
    exact ⟨fun _ => (hn n hnn).1, (hn n hnn).2⟩

/-- The log begins where the first record that is there does. -/
theorem first_pick {N T : Nat} {G D : List Rr} (hok : ∀ r ∈ G ++ D, RrOk N r) (hch : Chain T (G ++ D)) {Kw : List Wm} (hk : Kw.map whOf = (G ++ D).map Rr.wh) {fr : Nat} (hfr : (D = [] ∧ chainE T G ≤ fr) ∨ ∃ r D', D = r :: D' ∧ fr = r.at_) : firstK fr Kw = G.length := by
  have hat : ∀ (j : Nat) (y : Wm), Kw[j]? = some y → ∃ r, (G ++ D)[j]? = some r ∧ r.at_ = y.at_ := fun j y hy => by
    have h1 := congrArg (fun l => l[j]?) hk
    simp only [List.getElem?_map, hy, Option.map_some] at h1
    cases hr : (G ++ D)[j]? with
    | none => rw [hr] at h1; simp at h1
    | some r =>
      rw [hr] at h1
      simp only [Option.map_some, Option.some.injEq] at h1
      exact ⟨r, rfl, by have := congrArg Wh.at_ h1; exact this.symm⟩
  have hlen : Kw.length = (G ++ D).length := by have := congrArg List.length hk; simpa using this
  rcases hfr with ⟨rfl, hle⟩ | ⟨r, D', rfl, rfl⟩
  · rw [List.append_nil] at *
    rw [firstK_none fr Kw (fun j y hy => by
      obtain ⟨r, hr, e⟩ := hat j y hy
      have hm := List.mem_of_getElem? hr
      have h1 := (chainE_ge hok hch).2 r hm
      have h2 := (hok r hm).finlt
      omega)]
    exact hlen
  · have hp := chain_pair hok hch
    have hlt : G.length < Kw.length := by rw [hlen]; simp
    obtain ⟨x, hx⟩ : ∃ x, Kw[G.length]? = some x := ⟨_, List.getElem?_eq_getElem hlt⟩
    refine firstK_at r.at_ Kw G.length x (fun j y hj hy => ?_) hx ?_
    · obtain ⟨z, hz, e⟩ := hat j y hy
      rw [List.getElem?_append_left hj] at hz
      have hm := List.mem_of_getElem? hz
      have h1 := (List.pairwise_append.1 hp).2.2 z hm r List.mem_cons_self
      have h2 := (hok z (List.mem_append_left _ hm)).finlt
      omega
    · obtain ⟨z, hz, e⟩ := hat _ x hx
      rw [List.getElem?_append_right (Nat.le_refl _), Nat.sub_self] at hz
      simp only [List.getElem?_cons_zero, Option.some.injEq] at hz
      rw [hz, e]
      exact Nat.le_refl _

/-- A disk's state without what arms it. -/
def calmS (s : St) : St := { s with armed := false, left := 0, mask := ⟨#[]⟩ }

theorem good_calm {s : St} (h : Good s) : Good (calmS s) := ⟨h.b0, h.b1, h.safe, h.pend, Int.le_refl _, by show (0 : Int) ≤ _; omega, h.w0, h.w1, by show (⟨#[]⟩ : ByteArray).size ≤ maxLen; decide⟩
theorem good_doneW {s : St} (h : Good s) {i : Int} {xs : List Int} (h0 : 0 ≤ i) (h1 : i < s.blocks) (hb : Blk xs) (hd : due s = false) : Good (doneSt s i xs) := by
  unfold doneSt countSt
  have hp : ∀ j c, upd s.pend i (some xs) j = some c → 0 ≤ j ∧ j < s.blocks ∧ Blk c := fun j c hj => by
    by_cases e : j = i
    · subst e; rw [upd_same] at hj; cases hj; exact ⟨h0, h1, hb⟩
    · rw [upd_other _ _ _ e] at hj; exact h.pend j c hj
  cases ha : s.armed
  · simp only [Bool.false_eq_true, if_false]
    exact ⟨h.b0, h.b1, h.safe, hp, h.l0, h.l1, (wrap64_in _).1, (wrap64_in _).2, h.mz⟩
  · simp only [if_true]
    simp [due, ha] at hd
    have := h.l1
    exact ⟨h.b0, h.b1, h.safe, hp, by show 0 ≤ s.left - 1; omega, by show s.left - 1 ≤ _; omega, (wrap64_in _).1, (wrap64_in _).2, h.mz⟩

theorem good_cutW {s : St} (h : Good s) (m : ByteArray) : Good (cutSt s m) := by
  refine ⟨(by rw [cut_blocks]; exact h.b0), (by rw [cut_blocks]; exact h.b1), fun i => ?_, (fun i c hc => by rw [cut_pend h] at hc; cases hc), (by unfold cutSt; exact Int.le_refl _), (by unfold cutSt; simp), ?_, ?_, (by unfold cutSt; exact Nat.zero_le _)⟩
  · rcases cut_safe h m i with e | ⟨c, hc, e⟩
    · rw [e]; exact h.safe i
    · rw [e]; exact (h.pend i c hc).2.2
  · unfold cutSt; simp only [settleN_writes]; exact h.w0
  · unfold cutSt; simp only [settleN_writes]; exact h.w1
theorem settleN_maskW (f : Nat → Bool) (s : St) (ks : List Int) : ∀ k, (settleN f s ks k).mask = s.mask
  | 0 => rfl
  | k + 1 => by
    have := settleN_maskW f s ks k
    unfold settleN settleSt safeSt
    split <;> exact this
theorem good_allSafeW {s : St} (h : Good s) : Good (allSafe s) := by
  have hb : (allSafe s).blocks = s.blocks := by unfold allSafe; rw [settleN_blocks]
  refine ⟨(by rw [hb]; exact h.b0), (by rw [hb]; exact h.b1), (fun i => by rw [allSafe_safe h]; exact seen_blk h i), (fun i c hc => by rw [allSafe_pend h] at hc; cases hc), ?_, ?_, ?_, ?_, ?_⟩
  · unfold allSafe; rw [settleN_left]; exact h.l0
  · unfold allSafe; rw [settleN_left]; exact h.l1
  · unfold allSafe; rw [settleN_writes]; exact h.w0
  · unfold allSafe; rw [settleN_writes]; exact h.w1
  · have : (allSafe s).mask = s.mask := by unfold allSafe; rw [settleN_maskW]
    rw [this]; exact h.mz
theorem calm_allSafe (s : St) : calmS (allSafe s) = allSafe (calmS s) := by
  have h : ∀ ks k, calmS (settleN (fun _ => true) s ks k) = settleN (fun _ => true) (calmS s) ks k := by
    intro ks k
    induction k with
    | zero => rfl
    | succ k ih => unfold settleN; rw [← ih]; rfl
  exact h _ _

theorem calm_doneSt (s : St) (i : Int) (xs : List Int) : calmS (doneSt s i xs) = doneSt (calmS s) i xs := by
  unfold doneSt countSt calmS
  cases s.armed <;> rfl
theorem viewP_calm (s : St) (f : Int) : viewP (calmS s) f = viewP s f := rfl
theorem seen_calm (s : St) : seen (calmS s) = seen s := rfl
theorem safeV_calm (s : St) (f : Int) : safeV (calmS s) f = safeV s f := rfl

theorem wrS_blocks (f : Int) : ∀ (L : List (Nat × Pc)) (s : St), (wrS f L s).2.blocks = s.blocks
  | [], s => rfl
  | y :: L, s => by
    have h := writeOut_blocks s (f + y.1) (encP y.2)
    show (if _ = 0 then wrS f L _ else _).2.blocks = _
    split
    · rw [wrS_blocks f L, h]
    · exact h

/-- A disk that is on and has the ring, armed or not. -/
structure OnD (s : St) (f : Int) (N : Nat) : Prop where
  on : s.off = false
  f0 : 0 ≤ f
  fn : f + N ≤ s.blocks

theorem OnD.calm {s : St} {f : Int} {N : Nat} (h : OnD s f N) : Calm (calmS s) f N := ⟨h.on, rfl, h.f0, h.fn⟩

/-- Pieces that are written: all of them; or the power is cut on the way, and each block is what was safe, or written. -/
theorem wrS_on : ∀ (L : List (Nat × Pc)) {s : St} {f : Int} {N : Nat}, OnD s f N → Good s → (∀ x ∈ L, x.1 < N ∧ PcOk x.2) →
    ((wrS f L s).1 = 0 ∧ OnD (wrS f L s).2 f N ∧ Good (wrS f L s).2 ∧ (wrS f L s).2.armed = s.armed ∧ calmS (wrS f L s).2 = (wrS f L (calmS s)).2) ∨
    ((wrS f L s).1 = 20 ∧ s.armed = true ∧ Good (wrS f L s).2 ∧ (wrS f L s).2.blocks = s.blocks ∧ (wrS f L s).2.off = true ∧ (wrS f L s).2.armed = false ∧ (∀ i, (wrS f L s).2.pend i = none) ∧ ∀ i, (wrS f L s).2.safe i = s.safe i ∨ (∃ c, s.pend i = some c ∧ (wrS f L s).2.safe i = c) ∨ ∃ x ∈ L, i = f + x.1 ∧ (wrS f L s).2.safe i = encP x.2)
  | [], s, f, N, h, hg, _ => .inl ⟨rfl, h, hg, rfl, rfl⟩
  | y :: L, s, f, N, h, hg, hL => by
    obtain ⟨hy1, hy2⟩ := hL y List.mem_cons_self
    have hblk := encP_blk hy2
    have hf0 := h.f0
    have hfn := h.fn
    have hu : useErr s (f + y.1) = 0 := by unfold useErr; rw [h.on]; simp; omega
    have hcw := calm_write h.calm hy1 hy2
    cases hd : due s
    · have hw : writeOut s (f + y.1) (encP y.2) = (0, doneSt s (f + y.1) (encP y.2)) := by
        unfold writeOut
        rw [if_neg (by rw [hu]; simp), if_neg (by rw [hblk.1]; simp), hd]
        rfl
      have e : wrS f (y :: L) s = wrS f L (doneSt s (f + y.1) (encP y.2)) := by
        show (if _ = 0 then _ else _) = _
        rw [hw]
        rfl
      have ec : wrS f (y :: L) (calmS s) = wrS f L (doneSt (calmS s) (f + y.1) (encP y.2)) := by
        show (if _ = 0 then _ else _) = _
        rw [hcw]
        rfl
      have hoff : (doneSt s (f + y.1) (encP y.2)).off = s.off := by unfold doneSt countSt; cases s.armed <;> rfl
      have hbl : (doneSt s (f + y.1) (encP y.2)).blocks = s.blocks := by unfold doneSt countSt; cases s.armed <;> rfl
      have harm : (doneSt s (f + y.1) (encP y.2)).armed = s.armed := by unfold doneSt countSt; cases ha : s.armed <;> simp [ha]
      have hsf : (doneSt s (f + y.1) (encP y.2)).safe = s.safe := by unfold doneSt countSt; cases s.armed <;> rfl
      have hpd : (doneSt s (f + y.1) (encP y.2)).pend = upd s.pend (f + y.1) (some (encP y.2)) := by unfold doneSt countSt; cases s.armed <;> rfl
      have hg1 := good_doneW hg (by omega) (by omega : f + (y.1 : Int) < s.blocks) hblk hd
      rcases wrS_on L ⟨by rw [hoff]; exact h.on, hf0, by rw [hbl]; exact hfn⟩ hg1 (fun x hx => hL x (List.mem_cons_of_mem _ hx)) with ⟨a1, a2, a3, a4, a5⟩ | ⟨a1, a2, a3, a4, a5, a6, a7, a8⟩
      · rw [e, ec]
        exact .inl ⟨a1, a2, a3, by rw [a4, harm], by rw [a5, calm_doneSt]⟩
      · rw [e]
        refine .inr ⟨a1, by rw [← harm]; exact a2, a3, by rw [a4, hbl], a5, a6, a7, fun i => ?_⟩
        rcases a8 i with q | ⟨c, q1, q2⟩ | ⟨x, hx, q1, q2⟩
        · left; rw [q, hsf]
        · rw [hpd] at q1
          by_cases ei : i = f + y.1
          · subst ei
            rw [upd_same] at q1
            cases q1
            exact .inr (.inr ⟨y, List.mem_cons_self, rfl, q2⟩)
          · rw [upd_other _ _ _ ei] at q1
            exact .inr (.inl ⟨c, q1, q2⟩)
        · exact .inr (.inr ⟨x, List.mem_cons_of_mem _ hx, q1, q2⟩)
    · have hw : writeOut s (f + y.1) (encP y.2) = (20, cutSt s s.mask) := by
        unfold writeOut
        rw [if_neg (by rw [hu]; simp), if_neg (by rw [hblk.1]; simp), hd]
        rfl
      have e : wrS f (y :: L) s = (20, cutSt s s.mask) := by
        show (if _ = 0 then _ else _) = _
        rw [hw]
        rfl
      rw [e]
      refine .inr ⟨rfl, by simp [due] at hd; exact hd.1, good_cutW hg _, cut_blocks s _, rfl, rfl, cut_pend hg _, fun i => ?_⟩
      rcases cut_safe hg s.mask i with q | q
      · exact .inl q
      · exact .inr (.inl q)

theorem chainE_is : ∀ (K : List Rr) (e : Nat), chainE e K = e ∨ ∃ r ∈ K, chainE e K = r.fin
  | [], e => .inl rfl
  | s :: K, e => by
    right
    show ∃ r ∈ s :: K, chainE s.fin K = r.fin
    rcases chainE_is K s.fin with h | ⟨r, hr, h⟩
    · exact ⟨s, List.mem_cons_self, h⟩
    · exact ⟨r, List.mem_cons_of_mem _ hr, h⟩

theorem li_first {N T : Nat} {K New G D : List Rr} {l : Lo} (h : LI N T K New G D l) : (D = [] → l.first = l.next) ∧ ∀ r D', D = r :: D' → l.first = r.at_ := by
  have ht := h.there
  refine ⟨fun hD => ?_, fun r D' hD => ?_⟩
  · rw [hD] at ht
    unfold Lo.first
    cases hl : l.there with
    | nil => rfl
    | cons x y => rw [hl] at ht; simp at ht
  · rw [hD] at ht
    unfold Lo.first
    cases hl : l.there with
    | nil => rw [hl] at ht; simp at ht
    | cons x y => rw [hl] at ht; simp at ht; exact ht.1.1

theorem li_tail_D {N T : Nat} {K New G D : List Rr} {l : Lo} (h : LI N T K New G D l) (hok : ∀ r ∈ K ++ New, RrOk N r) (hch : Chain T (K ++ New)) : ∀ r ∈ D, l.tail ≤ r.at_ := fun r hr => by
  rcases h.tend with e | ⟨g, hg, e⟩
  · rw [e]
    exact chain_ge hok hch r (by rw [h.all]; exact List.mem_append_right _ hr)
  · have hp := chain_pair hok hch
    rw [h.all] at hp
    have := (List.pairwise_append.1 hp).2.2 g hg r hr
    omega

/-- Where a log begins whose records are these. -/
def Begins (U : Nat) (G D : List Rr) (fr : Nat) : Prop := (D = [] ∧ chainE U G ≤ fr) ∨ ∃ r D', D = r :: D' ∧ fr = r.at_

theorem left_of {S V : Nat → Pc} {N T : Nat} {K New G D : List Rr} {l : Lo} (hS : SI S N T K) (hn : NI N T K New) (hli : LI N T K New G D l) (hnx : chainE T (K ++ New) ≤ l.next) (hV : Shows N S V New) : ∃ U G' k, FI V N U (G' ++ D.take k) ∧ U ≤ l.tail ∧ D.length - New.length ≤ k ∧ k ≤ D.length ∧ Begins U G' (D.take k) l.first := by
  obtain ⟨A, B, hAB, hF, hend, hc, _⟩ := shows_fi hS hn hV
  have hUl : tailK V N ≤ l.tail := now_tail hS.tail hV hli.tnew hli.t0
  generalize tailK V N = U at *
  have hok : ∀ r ∈ K ++ New, RrOk N r := fun r hr => by
    rcases List.mem_append.1 hr with h | h
    · exact hS.ok r h
    · exact hn.ok r h
  have hch : Chain T (K ++ New) := chain_app.2 ⟨hS.chain, hn.chain⟩
  have hp := chain_pair hok hch
  have hDt := li_tail_D hli hok hch
  obtain ⟨m, hm⟩ : ∃ m, (K ++ A).length = m := ⟨_, rfl⟩
  have hall : G ++ D = (K ++ A) ++ B := by rw [← hli.all, hAB, List.append_assoc]
  have hpre : K ++ A = G.take m ++ D.take (m - G.length) := by
    have h1 : (G ++ D).take m = K ++ A := by rw [hall, ← hm, List.take_left]
    rw [← h1, List.take_append]
  have hlen : G.length + D.length = m + B.length := by
    have := congrArg List.length hall
    rw [List.length_append, List.length_append, hm] at this
    exact this
  have hBN : B.length ≤ New.length := by rw [hAB, List.length_append]; omega
  rw [hpre] at hF hc
  rw [List.filter_append] at hF hc
  have hfD : (D.take (m - G.length)).filter (fun r => decide (U ≤ r.at_)) = D.take (m - G.length) := List.filter_eq_self.2 (fun r hr => by
    have := hDt r (List.mem_of_mem_take hr)
    simp
    omega)
  rw [hfD] at hF hc
  refine ⟨U, _, m - G.length, hF, hUl, by omega, by omega, ?_⟩
  obtain ⟨f1, f2⟩ := li_first hli
  cases hk : D.take (m - G.length) with
  | nil =>
    refine .inl ⟨rfl, ?_⟩
    rw [hk, List.append_nil] at hc
    rw [hc, List.append_nil]
    cases hDc : D with
    | nil =>
      rw [f1 hDc]
      have h1 : chainE T (K ++ New) = chainE (chainE T (K ++ A)) B := by rw [hAB, ← List.append_assoc, chainE_app]
      rw [hpre, hk, List.append_nil] at h1
      have h2 : Chain (chainE T (K ++ A)) B := by
        rw [hAB, ← List.append_assoc] at hch
        exact (chain_app.1 hch).2
      rw [hpre, hk, List.append_nil] at h2
      have h3 := (chainE_ge (fun r hr => hn.ok r (by rw [hAB]; exact List.mem_append_right _ hr)) h2).1
      omega
    | cons r D' =>
      rw [f2 r D' hDc]
      have hrD : r ∈ K ++ New := by rw [hli.all, hDc]; exact List.mem_append_right _ List.mem_cons_self
      rcases chainE_is (G.take m) T with e | ⟨g, hg, e⟩
      · rw [e]; exact chain_ge hok hch r hrD
      · rw [e]
        rw [hli.all, hDc] at hp
        exact (List.pairwise_append.1 hp).2.2 g (List.mem_of_mem_take hg) r List.mem_cons_self
  | cons r D' =>
    refine .inr ⟨r, D', rfl, ?_⟩
    cases hDc : D with
    | nil => rw [hDc] at hk; simp at hk
    | cons x Y =>
      rw [f2 x Y hDc]
      rw [hDc] at hk
      cases hmk : m - G.length with
      | zero => rw [hmk] at hk; simp at hk
      | succ j => rw [hmk, List.take_succ_cons] at hk; simp at hk; rw [hk.1]

/-- What an Open finds: each block safe, a ring that shows records from the place on where it begins. -/
structure Left (s : St) (f : Int) (N M U : Nat) (G D : List Rr) (fr : Nat) : Prop where
  good : Good s
  f0 : 0 ≤ f
  fn : f + N ≤ s.blocks
  un : ∀ i : Nat, i < N → unE (seen s (f + i)) = 0
  fi : FI (viewP s f) N U (G ++ D)
  begins : Begins U G D fr
  um : U ≤ M
  frm : fr ≤ M
  bd : ∀ i : Nat, i < N → ((viewP s f i).kind ≠ 0 → (viewP s f i).at_ ≤ M) ∧ (viewP s f i).tail ≤ M

theorem Left.same {s s' : St} {f : Int} {N M U : Nat} {G D : List Rr} {fr : Nat} (h : Left s f N M U G D fr) (hg : Good s') (hb : s'.blocks = s.blocks) (hs : ∀ i, seen s' i = seen s i) : Left s' f N M U G D fr := by
  have hv : viewP s' f = viewP s f := by funext i; unfold viewP; rw [hs]
  exact ⟨hg, h.f0, by rw [hb]; exact h.fn, fun i hi => by rw [hs]; exact h.un i hi, by rw [hv]; exact h.fi, h.begins, h.um, h.frm, by rw [hv]; exact h.bd⟩

/-- Wiped in part. -/
theorem Left.wiped {s s' : St} {f : Int} {N M U : Nat} {G D : List Rr} {fr : Nat} (h : Left s f N M U G D fr) (hM : M < 18446744073709551616) (hg : Good s') (hb : s'.blocks = s.blocks) (hs : ∀ i : Nat, i < N → seen s' (f + i) = seen s (f + i) ∨ ((∀ r ∈ G ++ D, i ∉ r.blocks) ∧ (viewP s f i).kind ≠ 0 ∧ seen s' (f + i) = encP (zeroP U))) : Left s' f N M U G D fr := by
  have hz : PcOk (zeroP U) := zeroP_ok (by have := h.um; omega)
  have hv : ∀ i, i < N → viewP s' f i = viewP s f i ∨ ((∀ r ∈ G ++ D, i ∉ r.blocks) ∧ (viewP s f i).kind ≠ 0 ∧ viewP s' f i = full (zeroP U)) := fun i hi => by
    rcases hs i hi with q | ⟨q1, q2, q3⟩
    · left; unfold viewP; rw [q]
    · right; exact ⟨q1, q2, by unfold viewP; rw [q3, (enc_view hz).2]⟩
  have hw : Wiped N U (G ++ D) (viewP s f) (viewP s' f) := fun i hi => by
    rcases hv i hi with q | ⟨q1, q2, q3⟩
    · exact .inl q
    · exact .inr ⟨q1, q2, by rw [q3]; rfl, by rw [q3]; rfl⟩
  refine ⟨hg, h.f0, by rw [hb]; exact h.fn, fun i hi => ?_, fi_wiped h.fi hw, h.begins, h.um, h.frm, fun i hi => ?_⟩
  · rcases hs i hi with q | ⟨_, _, q⟩
    · rw [q]; exact h.un i hi
    · rw [q]; exact (enc_view hz).1
  · rcases hv i hi with q | ⟨_, _, q⟩
    · rw [q]; exact h.bd i hi
    · rw [q]; exact ⟨fun hk => absurd rfl hk, h.um⟩

end Go.Proofs.YtckcdmkgmbicfaaGreat
