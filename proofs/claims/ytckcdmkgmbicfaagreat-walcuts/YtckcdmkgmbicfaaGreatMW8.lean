/- WMathC, WAppA, WMathD, WMathE, WMathF, WMathG, WMathH: in one text. -/
import Derived.Test.YtckcdmkgmbicfaaGreatMW5
import Derived.Test.YtckcdmkgmbicfaaGreatMW6
import Derived.Test.YtckcdmkgmbicfaaGreatWLet
import Derived.Test.YtckcdmkgmbicfaaGreatWPieces
import Derived.Test.YtckcdmkgmbicfaaGreatMW2
import Derived.Test.YtckcdmkgmbicfaaGreatWLog
namespace Go.Proofs.YtckcdmkgmbicfaaGreat
open Go.RowKit
set_option linter.unusedVariables false
set_option linter.unusedSimpArgs false
set_option maxRecDepth 4000

/-- Some of what is not kept has been wiped. -/
def Wiped (N T : Nat) (K : List Rr) (V W : Nat → Pc) : Prop := ∀ i, i < N → W i = V i ∨ ((∀ r ∈ K, i ∉ r.blocks) ∧ (V i).kind ≠ 0 ∧ (W i).kind = 0 ∧ (W i).tail = T)

theorem wiped_tail {V W : Nat → Pc} {N T : Nat} {K : List Rr} (hT : tailK V N = T) (hw : Wiped N T K V W) : tailK W N = T := by
  have hle : ∀ i, i < N → (W i).tail ≤ T := fun i hi => by
    rcases hw i hi with q | q
    · rw [q, ← hT]; exact tailK_ge V N i hi
    · omega
  have h1 : tailK W N ≤ T := by
    rcases tailK_is W N with e | ⟨i, hi, e⟩
    · omega
    · have := hle i hi; omega
  have h2 : T ≤ tailK W N := by
    rcases tailK_is V N with e | ⟨i, hi, e⟩
    · omega
    · rw [hT] at e
      have h3 := tailK_ge W N i hi
      rcases hw i hi with q | q
      · rw [q] at h3; omega
      · omega
  omega

theorem wiped_whole {V W : Nat → Pc} {N T : Nat} {K : List Rr} (hok : ∀ r ∈ K, RrOk N r) (hwh : ∀ r ∈ K, Whole V r) (hw : Wiped N T K V W) : ∀ r ∈ K, Whole W r := fun r hr j hj => by
  have hb := (hok r hr).lt _ (getD_mem hj)
  rcases hw _ hb with q | q
  · rw [q]; exact hwh r hr j hj
  · exact absurd (getD_mem hj) (q.1 r hr)

/-- What is kept stays so while the rest is wiped. -/
theorem fi_wiped {V W : Nat → Pc} {N T : Nat} {K : List Rr} (h : FI V N T K) (hw : Wiped N T K V W) : FI W N T K := by
  refine ⟨h.ok, h.chain, wiped_whole h.ok h.whole hw, fun i hi hnot hk => ?_, wiped_tail h.tail hw⟩
  have hVi : W i = V i := by
    rcases hw i hi with q | q
    · exact q
    · exact absurd q.2.2.1 hk
  rw [hVi] at hk ⊢
  obtain ⟨h1, h2⟩ := h.junk i hi hnot hk
  refine ⟨h1, ?_⟩
  rcases h2 with q | q | ⟨j, hj1, hj2⟩ | q
  · exact .inl q
  · exact .inr (.inl q)
  · refine .inr (.inr (.inl ⟨j, hj1, fun k hk1 hk2 hka => ?_⟩))
    have hVk : W k = V k := by
      rcases hw k hk1 with q | q
      · exact q
      · exact absurd q.2.2.1 hk2
    rw [hVk] at hk2 hka ⊢
    exact hj2 k hk1 hk2 hka
  · exact .inr (.inr (.inr q))

/-- Once all the rest is wiped, nothing else is there. -/
theorem fi_safe {V W : Nat → Pc} {N T : Nat} {K : List Rr} (h : FI V N T K) (hw : Wiped N T K V W) (hall : ∀ i, i < N → (∀ r ∈ K, i ∉ r.blocks) → (W i).kind = 0) : SI W N T K :=
  ⟨h.ok, h.chain, wiped_whole h.ok h.whole hw, fun i hi hnot hk => absurd (hall i hi hnot) hk, wiped_tail h.tail hw⟩

theorem ni_nil (N T : Nat) (K : List Rr) : NI N T K [] :=
  ⟨(fun n hn => by cases hn), trivial, (fun x L h => by cases h), (fun n hn => by cases hn), (fun A n B h => by cases A <;> cases h), fun n hn => by cases hn⟩

theorem chainE_app : ∀ (X Y : List Rr) (e : Nat), chainE e (X ++ Y) = chainE (chainE e X) Y
  | [], _, _ => rfl
  | r :: X, Y, e => chainE_app X Y r.fin

/-- A record more. -/
theorem ni_add {N T : Nat} {K New : List Rr} (h : NI N T K New) {n : Rr} (hok : RrOk N n) (hat : n.at_ = chainE T (K ++ New) ∨ (chainE T (K ++ New) < n.at_ ∧ n.kind = 2)) (hk : New ≠ [] → n.kind = 1) (ht : T ≤ n.tail) (he : n.tail = T ∨ ∃ r ∈ K ++ New, n.tail = r.fin) (ho : ∀ r ∈ K, ∀ b ∈ n.blocks, b ∈ r.blocks → r.fin ≤ n.tail) : NI N T K (New ++ [n]) := by
  refine ⟨fun x hx => ?_, ?_, fun x L e y hy => ?_, fun x hx => ?_, fun A x B e => ?_, fun x hx => ?_⟩
  · rcases List.mem_append.1 hx with hx | hx
    · exact h.ok x hx
    · simp only [List.mem_singleton] at hx; subst hx; exact hok
  · rw [chainE_app] at hat
    exact chain_app.2 ⟨h.chain, hat, trivial⟩
  · cases hN : New with
    | nil => rw [hN] at e; simp only [List.nil_append, List.cons.injEq] at e; rw [← e.2] at hy; cases hy
    | cons z M =>
      rw [hN, List.cons_append] at e
      simp only [List.cons.injEq] at e
      rw [← e.2] at hy
      rcases List.mem_append.1 hy with hy | hy
      · exact h.kind z M hN y hy
      · simp only [List.mem_singleton] at hy; subst hy; exact hk (by rw [hN]; simp)
  · rcases List.mem_append.1 hx with hx | hx
    · exact h.tail x hx
    · simp only [List.mem_singleton] at hx; subst hx; exact ht
  · rcases List.eq_nil_or_concat B with hB | ⟨B', y, hB⟩
    · subst hB
      have e2 := List.append_inj' e rfl
      obtain ⟨rfl, e3⟩ := e2
      simp only [List.cons.injEq, and_true] at e3
      subst e3
      exact he
    · subst hB
      rw [List.concat_eq_append, ← List.cons_append, ← List.append_assoc] at e
      have e2 := List.append_inj' e rfl
      exact h.ends A x B' e2.1
  · rcases List.mem_append.1 hx with hx | hx
    · exact h.over x hx
    · simp only [List.mem_singleton] at hx; subst hx; exact ho

/-- What the ring shows while nothing is lost: each block the piece that was written there last. -/
def Now (N : Nat) (S V : Nat → Pc) (New : List Rr) : Prop := ∀ i, i < N → (V i = S i ∧ ∀ n ∈ New, i ∉ n.blocks) ∨ ∃ X n Y, New = X ++ n :: Y ∧ (∀ y ∈ Y, i ∉ y.blocks) ∧ ∃ j, j < n.blocks.length ∧ n.blocks.getD j 0 = i ∧ V i = n.pc j
theorem Now.shows {N : Nat} {S V : Nat → Pc} {New : List Rr} (h : Now N S V New) : Shows N S V New := fun i hi => by
  rcases h i hi with q | ⟨X, n, Y, e, _, j, hj, e2, e3⟩
  · exact .inl q.1
  · exact .inr ⟨n, by rw [e]; simp, j, hj, e2, e3⟩

/-- A newer record that takes a block of an elder one has a tail at or behind its end. -/
def Over (New : List Rr) : Prop := New.Pairwise (fun a b => ∀ i ∈ b.blocks, i ∈ a.blocks → a.fin ≤ b.tail)

theorem nodup_getD {l : List Nat} (h : l.Nodup) {i j : Nat} (hi : i < l.length) (hj : j < l.length) (e : l.getD i 0 = l.getD j 0) : i = j := by
  rw [List.getD_eq_getElem?_getD, List.getD_eq_getElem?_getD, List.getElem?_eq_getElem hi, List.getElem?_eq_getElem hj] at e
  exact (List.getElem_inj h).1 e

theorem now_whole {S V : Nat → Pc} {N U : Nat} {New : List Rr} (hok : ∀ n ∈ New, RrOk N n) (hV : Now N S V New) (ho : Over New) (hU : tailK V N = U) : ∀ n ∈ New, n.at_ < U ∨ Whole V n := fun n hn => by
  by_cases h : n.at_ < U
  · exact .inl h
  refine .inr (fun j hj => ?_)
  have hb := (hok n hn).lt _ (getD_mem hj)
  rcases hV _ hb with q | ⟨X, m, Y, e, hY, j', hj', e2, e3⟩
  · exact absurd (getD_mem hj) (q.2 n hn)
  · have hm : (V (n.blocks.getD j 0)).tail = m.tail := by rw [e3]; rfl
    have hge := tailK_ge V N _ hb
    rw [hU, hm] at hge
    rw [e] at hn
    rcases List.mem_append.1 hn with hX | hn2
    · have hov := ho
      unfold Over at hov
      rw [e] at hov
      have := (List.pairwise_append.1 hov).2.2 n hX m List.mem_cons_self _ (by rw [← e2]; exact getD_mem hj') (getD_mem hj)
      have := (hok n (by rw [e]; exact List.mem_append_left _ hX)).finlt
      omega
    · rcases List.mem_cons.1 hn2 with rfl | hnY
      · have := nodup_getD (hok n (by rw [e]; simp)).nodup hj' hj e2
        rw [e3, this]
      · exact absurd (getD_mem hj) (hY n hnY)

/-- Made safe, all that was appended is there. -/
theorem now_safe {S V : Nat → Pc} {N T : Nat} {K New : List Rr} (hS : SI S N T K) (hn : NI N T K New) (hV : Now N S V New) (ho : Over New) : SI V N (tailK V N) ((K ++ New).filter (fun r => decide (tailK V N ≤ r.at_))) ∧ (T = tailK V N ∨ ∃ r ∈ K ++ New, tailK V N = r.fin) ∧ chainE (tailK V N) ((K ++ New).filter (fun r => decide (tailK V N ≤ r.at_))) = chainE T (K ++ New) := by
  obtain ⟨A, B, hAB, hF, he, hc, hB⟩ := shows_fi hS hn hV.shows
  have hBn : B = [] := by
    cases hBc : B with
    | nil => rfl
    | cons y B' => exact absurd (now_whole hn.ok hV ho rfl y (by rw [hAB, hBc]; simp)) (hB y B' hBc)
  subst hBn
  rw [List.append_nil] at hAB
  subst hAB
  refine ⟨⟨hF.ok, hF.chain, hF.whole, fun i hi hnot hk => ?_, rfl⟩, he, hc⟩
  have hch : Chain T (K ++ New) := chain_app.2 ⟨hS.chain, hn.chain⟩
  have hok : ∀ r ∈ K ++ New, RrOk N r := fun r hr => by
    rcases List.mem_append.1 hr with h | h
    · exact hS.ok r h
    · exact hn.ok r h
  have hTU : T ≤ tailK V N := by
    rcases he with e | ⟨r, hr, e⟩
    · omega
    · have := chain_ge hok hch r hr; have := (hok r hr).finlt; omega
  rcases hV i hi with ⟨q, _⟩ | ⟨X, n, Y, e, _, j, hj, e2, e3⟩
  · by_cases hin : ∃ r ∈ K, i ∈ r.blocks
    · obtain ⟨r, hr, hir⟩ := hin
      obtain ⟨j, hj, e⟩ := mem_getD hir
      have hw := hS.whole r hr j hj
      rw [e] at hw
      have hat : (V i).at_ = r.at_ := by rw [q, hw]; rfl
      by_cases hrU : tailK V N ≤ r.at_
      · exact absurd hir (hnot r (List.mem_filter.2 ⟨List.mem_append_left _ hr, by simpa using hrU⟩))
      · omega
    · have := hS.low i hi (fun r hr hb => hin ⟨r, hr, hb⟩) (by rw [← q]; exact hk)
      rw [← q] at this
      omega
  · have hat : (V i).at_ = n.at_ := by rw [e3]; rfl
    by_cases hrU : tailK V N ≤ n.at_
    · exact absurd (by rw [← e2]; exact getD_mem hj) (hnot n (List.mem_filter.2 ⟨List.mem_append_right _ (by rw [e]; simp), by simpa using hrU⟩))
    · omega

theorem not_disk {w : World} {p bs bp : Nat} {s : St} (h : DiskAt w p bs bp s) {k : Nat} {cs : Array Value} {T : TypeId} {fr : Nat × Nat} (hk : w.heap[k]? = some (.cells cs T fr)) (hT : T ≠ 69) : k ∉ [p, bs, bp] := by
  intro hm
  obtain ⟨M, hM, _⟩ := h.safe
  obtain ⟨es, cl, hs⟩ := hM.is
  obtain ⟨ep, cp, hp⟩ := h.pend.is
  simp only [List.mem_cons, List.mem_nil_iff, or_false] at hm
  rcases hm with rfl | rfl | rfl
  · rw [h.row] at hk; simp only [Option.some.injEq, Obj.cells.injEq] at hk; exact hT hk.2.1.symm
  · rw [hs] at hk; cases hk
  · rw [hp] at hk; cases hk
theorem own_not_disk {w : World} {p bs bp : Nat} {s : St} (h : DiskAt w p bs bp s) {base n k : Nat} {e : TypeId} {v : Value} {xs : List Value} (ho : w.ownsRow base e k v n xs) (he : e ≠ 69) : ∀ q, v.ownBlock = some q → q ∉ [p, bs, bp] := fun q hq => by
  obtain ⟨_, ⟨rfl, _⟩ | ⟨g, c, cur, rfl, _, hg, _⟩⟩ := ho
  · cases hq
  · simp only [Value.ownBlock, Option.some.injEq] at hq
    subst hq
    exact not_disk h hg he
theorem rd_sole {w W : World} {p bs bp : Nat} {s : St} (h : DiskAt w p bs bp s) {v : Value} {xs : List Int} (hr : Rd w v xs) (hS : Sole [p, bs, bp] w W) : Rd W v xs := by
  obtain ⟨a, cap, rfl, h1, h2, h3, h4⟩ := hr
  refine ⟨a, cap, rfl, h1, h2, h3, fun hx => ?_⟩
  obtain ⟨b, off, rfl, hl, hc⟩ := h4 hx
  have hpos : 0 < xs.length := List.length_pos_iff.2 hx
  have hb : b ∉ [p, bs, bp] := by
    have h0 := hc 0 hpos
    cases hh : w.heap[b]? with
    | none => unfold World.cell? at h0; simp only [hh] at h0; cases h0
    | some o =>
      cases o with
      | cells cs T fr =>
        intro hm
        by_cases e : T = 69
        · subst e
          have hbp : b = p := by
            obtain ⟨M, hM, _⟩ := h.safe
            obtain ⟨es, cl, hs⟩ := hM.is
            obtain ⟨ep, cp, hp⟩ := h.pend.is
            simp only [List.mem_cons, List.mem_nil_iff, or_false] at hm
            rcases hm with rfl | rfl | rfl
            · rfl
            · rw [hs] at hh; cases hh
            · rw [hp] at hh; cases hh
          subst hbp
          rw [cell_of_row _ _ _ _ _ (0, 0) h.row] at h0
          have hlt := (Array.getElem?_eq_some_iff.1 h0).1
          have h8 : off + 0 < 8 := hlt
          obtain ⟨o, ho⟩ : ∃ o, off + 0 = o := ⟨_, rfl⟩
          rw [ho] at h0 h8
          unfold cellsOf at h0
          match o, h8, h0 with
          | 0, _, h0 => simp at h0
          | 1, _, h0 => simp at h0
          | 2, _, h0 => simp at h0
          | 3, _, h0 => simp at h0
          | 4, _, h0 => simp at h0
          | 5, _, h0 => simp at h0
          | 6, _, h0 => simp at h0
          | 7, _, h0 => simp at h0
        · exact not_disk h hh e hm
      | _ => unfold World.cell? at h0; simp only [hh] at h0; cases h0
  refine ⟨b, off, rfl, Nat.lt_of_lt_of_le hl hS.size, fun i hi => ?_⟩
  rw [← hc i hi]
  unfold World.cell?
  rw [hS.block b hl hb]

theorem LoAt.disk {base : Nat} {w W : World} {q p bs bp : Nat} {f : Int} {N : Nat} {tv fv : Value} {l : Lo} {s : St} (h : LoAt base w q p f N tv fv l) (hd : DiskAt w p bs bp s) (hS : Sole [p, bs, bp] w W) : LoAt base W q p f N tv fv l :=
  ⟨(hS.block q (Array.getElem?_eq_some_iff.1 h.row).1 (not_disk hd h.row (by decide))).trans h.row, own_keep h.there hS.size (fun k hk hl => hS.block k hl (own_not_disk hd h.there (by decide) k hk)), own_keep h.free hS.size (fun k hk hl => hS.block k hl (own_not_disk hd h.free (by decide) k hk)), fun x hx => own_keep (h.each x hx) hS.size (fun k hk hl => hS.block k hl (own_not_disk hd (h.each x hx) (by decide) k hk))⟩

theorem belowD (W : World) : Below W.heap.size W W.drew := ⟨rfl, rfl, rfl, Nat.le_refl _, fun _ _ => rfl⟩

/-- Pieces written, each into its block, till one tells an error. -/
def wrS (f : Int) : List (Nat × Pc) → St → Int × St
  | [], s => (0, s)
  | x :: r, s => if (writeOut s (f + x.1) (encP x.2)).1 = 0 then wrS f r (writeOut s (f + x.1) (encP x.2)).2 else writeOut s (f + x.1) (encP x.2)

/-- A record's piece as Append lays it down. -/
def appPc (K T A : Nat) (xs : List Int) (i : Nat) : Pc := ⟨K, T, A, i, xs.length, (xs.drop (i * 488)).take 488⟩
def appL (K T A : Nat) (xs : List Int) (S : List Sl) : List (Nat × Pc) := (List.range S.length).map fun i => ((S.getD i ⟨0, 0⟩).block, appPc K T A xs i)
theorem appL_drop (K T A : Nat) (xs : List Int) (S : List Sl) (i : Nat) (x : Sl) (hx : S[i]? = some x) : (appL K T A xs S).drop i = (x.block, appPc K T A xs i) :: (appL K T A xs S).drop (i + 1) := by
  obtain ⟨hi, e⟩ := List.getElem?_eq_some_iff.1 hx
  have hl : i < (appL K T A xs S).length := by unfold appL; simpa using hi
  rw [List.drop_eq_getElem_cons hl]
  congr 1
  unfold appL
  simp [List.getD_eq_getElem?_getD, hx]
theorem appL_end (K T A : Nat) (xs : List Int) (S : List Sl) (i : Nat) (hi : S.length ≤ i) : (appL K T A xs S).drop i = [] := List.drop_eq_nil_of_le (by unfold appL; simpa using hi)

theorem pie_cell {w : World} {g n L : Nat} {bv : Nat → Sv} (hg : w.heap[g]? = some (.cells (pieR n L bv n).toArray 82 (0, 0))) {i : Nat} (hi : i < n) (j : Nat) (hj : j < 6) : w.cell? ⟨g, i * 6 + j, none⟩ = some ((pieF L bv n i)[j]!) := by
  rw [cell_of_row _ _ _ _ _ (0, 0) hg, List.getElem?_toArray, pieR_get _ _ _ _ _ (by omega), show (i * 6 + j) / 6 = i from by omega, show (i * 6 + j) % 6 = j from by omega]

/-- The log's words and the records of its ring: those that are gone (G), then those that are there (D). -/
structure LI (N T : Nat) (K New G D : List Rr) (l : Lo) : Prop where
  all : K ++ New = G ++ D
  there : l.there.map (fun t => (t.at_, t.blocks)) = D.map (fun r => (r.at_, r.blocks))
  grown1 : l.grown = true → l.next = chainE T (K ++ New)
  grown0 : l.grown = false → New = [] ∧ chainE T (K ++ New) ≤ l.next
  t0 : T ≤ l.tail
  tend : l.tail = T ∨ ∃ r ∈ G, l.tail = r.fin
  tnew : ∀ n ∈ New, n.tail ≤ l.tail
  perm : (l.free.map Sl.block ++ D.flatMap Rr.blocks).Perm (List.range N)
  fins : ∀ x ∈ l.free, x.fin ≤ l.tail ∨ ∃ r ∈ G, x.fin = r.fin
  cover : ∀ x ∈ l.free, ∀ r ∈ G, x.block ∈ r.blocks → r.fin ≤ max x.fin l.tail

theorem tailS_ge : ∀ (S : List Sl) (t : Nat), t ≤ tailS t S ∧ (∀ x ∈ S, x.fin ≤ tailS t S) ∧ (tailS t S = t ∨ ∃ x ∈ S, tailS t S = x.fin)
  | [], t => ⟨Nat.le_refl _, (fun x hx => by cases hx), .inl rfl⟩
  | y :: S, t => by
    obtain ⟨h1, h2, h3⟩ := tailS_ge S (max t y.fin)
    have e : tailS t (y :: S) = tailS (max t y.fin) S := rfl
    rw [e]
    refine ⟨by omega, fun x hx => ?_, ?_⟩
    · rcases List.mem_cons.1 hx with rfl | hx
      · omega
      · exact h2 x hx
    · rcases h3 with q | ⟨x, hx, q⟩
      · by_cases hm : t ≤ y.fin
        · exact .inr ⟨y, List.mem_cons_self, by omega⟩
        · left; omega
      · exact .inr ⟨x, List.mem_cons_of_mem _ hx, q⟩

/-- The record that Append lays down. -/
def appR (l : Lo) (g : List ByteArray) : Rr := ⟨l.next, if l.grown then 1 else 2, tailS l.tail (l.free.take (piecesN (layL g).length)), g, (l.free.take (piecesN (layL g).length)).map Sl.block⟩

theorem li_append {N T : Nat} {K New G D : List Rr} {l : Lo} (h : LI N T K New G D l) (hn : NI N T K New) (ho : Over New) (g : List ByteArray) (htx : TextsOk g) (hfl : piecesN (layL g).length ≤ l.free.length) (tm : Tm) (ht1 : tm.at_ = l.next) (ht2 : tm.blocks = (l.free.take (piecesN (layL g).length)).map Sl.block) :
    NI N T K (New ++ [appR l g]) ∧ Over (New ++ [appR l g]) ∧ LI N T K (New ++ [appR l g]) G (D ++ [appR l g]) ⟨l.there ++ [tm], l.free.drop (piecesN (layL g).length), l.next + piecesN (layL g).length, tailS l.tail (l.free.take (piecesN (layL g).length)), true⟩ := by
  obtain ⟨n, hnn⟩ : ∃ n, piecesN (layL g).length = n := ⟨_, rfl⟩
  obtain ⟨r, hr⟩ : ∃ r, appR l g = r := ⟨_, rfl⟩
  obtain ⟨U, hU⟩ : ∃ U, tailS l.tail (l.free.take n) = U := ⟨_, rfl⟩
  have hat : r.at_ = l.next := by rw [← hr]; rfl
  have hkd : r.kind = if l.grown then 1 else 2 := by rw [← hr]; rfl
  have htl : r.tail = U := by rw [← hr, ← hU, ← hnn]; rfl
  have hbl : r.blocks = (l.free.take n).map Sl.block := by rw [← hr, ← hnn]; rfl
  have hby : r.bytes = layL g := by rw [← hr]; rfl
  have hgr : r.group = g := by rw [← hr]; rfl
  rw [hnn] at hfl ht2 ⊢
  rw [hr, hU]
  have hlen : r.blocks.length = n := by rw [hbl, List.length_map, List.length_take]; omega
  obtain ⟨g1, g2, g3⟩ := tailS_ge (l.free.take n) l.tail
  rw [hU] at g1 g2 g3
  have hnd : (l.free.map Sl.block ++ D.flatMap Rr.blocks).Nodup := h.perm.nodup_iff.2 List.nodup_range
  have hlt : ∀ b ∈ l.free.map Sl.block, b < N := fun b hb => List.mem_range.1 (h.perm.mem_iff.1 (List.mem_append_left _ hb))
  have hsub : ∀ b ∈ r.blocks, ∃ x ∈ l.free.take n, x.block = b := fun b hb => by rw [hbl] at hb; exact List.mem_map.1 hb
  have hfree : ∀ b ∈ r.blocks, b ∈ l.free.map Sl.block := fun b hb => by
    obtain ⟨x, hx, e⟩ := hsub b hb
    exact List.mem_map.2 ⟨x, List.mem_of_mem_take hx, e⟩
  have hnotD : ∀ b ∈ r.blocks, ∀ d ∈ D, b ∉ d.blocks := fun b hb d hd hbd => by
    have := (List.nodup_append.1 hnd).2.2 b (hfree b hb) b (List.mem_flatMap.2 ⟨d, hd, hbd⟩)
    exact this rfl
  have hok : RrOk N r := by
    refine ⟨by rw [hkd]; cases l.grown <;> simp, by rw [hlen, hby, hnn], ?_, fun b hb => hlt b (hfree b hb), by rw [hgr]; exact htx⟩
    rw [hbl, List.map_take]
    exact (List.nodup_append.1 hnd).1.sublist (List.take_sublist _ _)
  have hover : ∀ a ∈ K ++ New, ∀ b ∈ r.blocks, b ∈ a.blocks → a.fin ≤ U := fun a ha b hb hba => by
    rw [h.all] at ha
    rcases List.mem_append.1 ha with hG | hD
    · obtain ⟨x, hx, e⟩ := hsub b hb
      have h1 := h.cover x (List.mem_of_mem_take hx) a hG (by rw [e]; exact hba)
      have h2 := g2 x hx
      omega
    · exact absurd hba (hnotD b hb a hD)
  have hendU : U = T ∨ ∃ a ∈ G, U = a.fin := by
    rcases g3 with e | ⟨x, hx, e⟩
    · rw [e]; exact h.tend
    · rcases h.fins x (List.mem_of_mem_take hx) with q | ⟨a, ha, q⟩
      · have : U = l.tail := by omega
        rw [this]; exact h.tend
      · exact .inr ⟨a, ha, by omega⟩
  have hGA : ∀ a ∈ G, a ∈ K ++ New := fun a ha => by rw [h.all]; exact List.mem_append_left _ ha
  have hKA : ∀ a ∈ K, a ∈ K ++ New := fun a ha => List.mem_append_left _ ha
  have hNA : ∀ a ∈ New, a ∈ K ++ New := fun a ha => List.mem_append_right _ ha
  have ht0 := h.t0
  refine ⟨ni_add hn hok ?_ ?_ (by rw [htl]; omega) ?_ (fun a ha b hb hba => by rw [htl]; exact hover a (hKA a ha) b hb hba), ?_, ?_⟩
  · cases hg : l.grown with
    | true => left; rw [hat]; exact h.grown1 hg
    | false =>
      have := (h.grown0 hg).2
      by_cases e : l.next = chainE T (K ++ New)
      · left; rw [hat]; exact e
      · right; rw [hat, hkd, hg]; exact ⟨by omega, rfl⟩
  · intro hne
    cases hg : l.grown with
    | true => rw [hkd, hg]; rfl
    | false => exact absurd (h.grown0 hg).1 hne
  · rw [htl]
    rcases hendU with e | ⟨a, ha, e⟩
    · exact .inl e
    · exact .inr ⟨a, hGA a ha, e⟩
  · unfold Over at ho ⊢
    rw [List.pairwise_append]
    refine ⟨ho, List.pairwise_singleton _ _, fun a ha b hb i hi hia => ?_⟩
    simp only [List.mem_singleton] at hb
    subst hb
    rw [htl]
    exact hover a (hNA a ha) i hi hia
  · refine ⟨by rw [← List.append_assoc, h.all, List.append_assoc], ?_, ?_, (fun e => by cases e), by show T ≤ U; omega, hendU, ?_, ?_, ?_, ?_⟩
    · show (l.there ++ [tm]).map _ = (D ++ [r]).map _
      rw [List.map_append, List.map_append, h.there]
      simp [ht1, ht2, hat, hbl]
    · intro _
      show l.next + n = chainE T (K ++ (New ++ [r]))
      rw [← List.append_assoc, chainE_app]
      show l.next + n = r.fin
      unfold Rr.fin
      rw [hat, hlen]
    · intro m hm
      show m.tail ≤ U
      rcases List.mem_append.1 hm with hm | hm
      · have := h.tnew m hm; omega
      · simp only [List.mem_singleton] at hm; subst hm; omega
    · show ((l.free.drop n).map Sl.block ++ (D ++ [r]).flatMap Rr.blocks).Perm (List.range N)
      refine List.Perm.trans ?_ h.perm
      rw [List.flatMap_append]
      have e1 : ([r] : List Rr).flatMap Rr.blocks = (l.free.take n).map Sl.block := by simp [hbl]
      rw [e1]
      have e2 : l.free.map Sl.block = (l.free.take n).map Sl.block ++ (l.free.drop n).map Sl.block := by rw [← List.map_append, List.take_append_drop]
      rw [e2]
      have p1 : ((l.free.drop n).map Sl.block ++ (D.flatMap Rr.blocks ++ (l.free.take n).map Sl.block)).Perm ((l.free.take n).map Sl.block ++ ((l.free.drop n).map Sl.block ++ D.flatMap Rr.blocks)) := by
        rw [← List.append_assoc]; exact List.perm_append_comm
      rw [List.append_assoc]
      exact p1
    · intro x hx
      show x.fin ≤ U ∨ _
      rcases h.fins x (List.mem_of_mem_drop hx) with q | q
      · left; omega
      · exact .inr q
    · intro x hx a ha hxa
      show a.fin ≤ max x.fin U
      have := h.cover x (List.mem_of_mem_drop hx) a ha hxa
      omega

def goneR (L : List Rr) : List Sl := L.flatMap fun r => slotsL r.blocks r.fin
theorem gone_eq : ∀ (L : List Tm) (M : List Rr), L.map (fun t => (t.at_, t.blocks)) = M.map (fun r => (r.at_, r.blocks)) → goneT L = goneR M
  | [], [], _ => rfl
  | [], m :: M, h => by simp at h
  | t :: L, [], h => by simp at h
  | t :: L, m :: M, h => by
    simp only [List.map_cons, List.cons.injEq, Prod.mk.injEq] at h
    have ih := gone_eq L M h.2
    unfold goneT goneR at ih ⊢
    rw [List.flatMap_cons, List.flatMap_cons, ih, h.1.1, h.1.2]
    rfl
theorem slots_mem {bs : List Nat} {fin : Nat} {x : Sl} (h : x ∈ slotsL bs fin) : x.block ∈ bs ∧ x.fin = fin := by
  unfold slotsL at h
  obtain ⟨b, hb, e⟩ := List.mem_map.1 h
  rw [← e]
  exact ⟨hb, rfl⟩
theorem slots_block (bs : List Nat) (fin : Nat) : (slotsL bs fin).map Sl.block = bs := by
  unfold slotsL
  rw [List.map_map]
  simp [Function.comp_def]
theorem goneR_mem {M : List Rr} {x : Sl} (h : x ∈ goneR M) : ∃ r ∈ M, x.block ∈ r.blocks ∧ x.fin = r.fin := by
  obtain ⟨r, hr, hx⟩ := List.mem_flatMap.1 h
  obtain ⟨h1, h2⟩ := slots_mem hx
  exact ⟨r, hr, h1, h2⟩
theorem goneR_block : ∀ M : List Rr, (goneR M).map Sl.block = M.flatMap Rr.blocks
  | [] => rfl
  | r :: M => by
    have ih := goneR_block M
    unfold goneR at ih ⊢
    rw [List.flatMap_cons, List.map_append, ih, slots_block, List.flatMap_cons]
theorem flat_same {L : List Rr} : (L.flatMap Rr.blocks).Nodup → ∀ a ∈ L, ∀ b ∈ L, ∀ i, i ∈ a.blocks → i ∈ b.blocks → a = b := by
  induction L with
  | nil => intro _ a ha; cases ha
  | cons x L ih =>
    intro h a ha b hb i hia hib
    rw [List.flatMap_cons] at h
    obtain ⟨_, h2, h3⟩ := List.nodup_append.1 h
    rcases List.mem_cons.1 ha with ea | haL
    · rcases List.mem_cons.1 hb with eb | hbL
      · rw [ea, eb]
      · exact absurd rfl (h3 i (by rw [← ea]; exact hia) i (List.mem_flatMap.2 ⟨b, hbL, hib⟩))
    · rcases List.mem_cons.1 hb with eb | hbL
      · exact absurd rfl (h3 i (by rw [← eb]; exact hib) i (List.mem_flatMap.2 ⟨a, haL, hia⟩))
      · exact ih h2 a haL b hbL i hia hib

/-- The first ones are let go. -/
theorem li_let {N T : Nat} {K New G D : List Rr} {l : Lo} (h : LI N T K New G D l) (hok : ∀ r ∈ K ++ New, RrOk N r) (hch : Chain T (K ++ New)) (i : Nat) : LI N T K New (G ++ D.take i) (D.drop i) (l.drop_ i) := by
  have hpair := chain_pair hok hch
  rw [h.all] at hpair
  have hgo : goneT (l.there.take i) = goneR (D.take i) := gone_eq _ _ (by rw [List.map_take, List.map_take, h.there])
  have hnd : (l.free.map Sl.block ++ D.flatMap Rr.blocks).Nodup := h.perm.nodup_iff.2 List.nodup_range
  have hDnd := (List.nodup_append.1 hnd).2.1
  have hfD : ∀ x ∈ l.free, ∀ d ∈ D, x.block ∉ d.blocks := fun x hx d hd hb => (List.nodup_append.1 hnd).2.2 _ (List.mem_map.2 ⟨x, hx, rfl⟩) _ (List.mem_flatMap.2 ⟨d, hd, hb⟩) rfl
  have hfree : (l.drop_ i).free = l.free ++ goneR (D.take i) := by rw [← hgo]; rfl
  have hcr : ∀ a ∈ G, ∀ d ∈ D, a.fin ≤ d.at_ := fun a ha d hd => (List.pairwise_append.1 hpair).2.2 a ha d hd
  have hDok : ∀ d ∈ D, RrOk N d := fun d hd => hok d (by rw [h.all]; exact List.mem_append_right _ hd)
  refine ⟨by rw [h.all, List.append_assoc, List.take_append_drop], ?_, h.grown1, h.grown0, h.t0, ?_, h.tnew, ?_, ?_, ?_⟩
  · show (l.there.drop i).map _ = (D.drop i).map _
    rw [List.map_drop, List.map_drop, h.there]
  · rcases h.tend with e | ⟨r, hr, e⟩
    · exact .inl e
    · exact .inr ⟨r, List.mem_append_left _ hr, e⟩
  · rw [hfree, List.map_append, goneR_block, List.append_assoc, ← List.flatMap_append, List.take_append_drop]
    exact h.perm
  · intro x hx
    rw [hfree] at hx
    rcases List.mem_append.1 hx with hx | hx
    · rcases h.fins x hx with q | ⟨r, hr, q⟩
      · exact .inl q
      · exact .inr ⟨r, List.mem_append_left _ hr, q⟩
    · obtain ⟨r, hr, _, q⟩ := goneR_mem hx
      exact .inr ⟨r, List.mem_append_right _ hr, q⟩
  · intro x hx a ha hxa
    show a.fin ≤ max x.fin l.tail
    rw [hfree] at hx
    rcases List.mem_append.1 hx with hx | hx
    · rcases List.mem_append.1 ha with ha | ha
      · exact h.cover x hx a ha hxa
      · exact absurd hxa (hfD x hx a (List.mem_of_mem_take ha))
    · obtain ⟨d, hd, hb, q⟩ := goneR_mem hx
      have hdD := List.mem_of_mem_take hd
      rcases List.mem_append.1 ha with ha | ha
      · have := hcr a ha d hdD
        have := (hDok d hdD).finlt
        omega
      · have := flat_same hDnd a (List.mem_of_mem_take ha) d hdD _ hxa hb
        subst this
        omega

/-- All is made safe. -/
theorem li_sync {N T U : Nat} {K New G D : List Rr} {l : Lo} (h : LI N T K New G D l) (hok : ∀ r ∈ K ++ New, RrOk N r) (hch : Chain T (K ++ New)) (hU : T = U ∨ ∃ r ∈ K ++ New, U = r.fin) (hUl : U ≤ l.tail) (he : chainE U ((K ++ New).filter (fun r => decide (U ≤ r.at_))) = chainE T (K ++ New)) : LI N U ((K ++ New).filter (fun r => decide (U ≤ r.at_))) [] (G.filter (fun r => decide (U ≤ r.at_))) D l := by
  have hpair := chain_pair hok hch
  rw [h.all] at hpair
  have hGok : ∀ a ∈ G, RrOk N a := fun a ha => hok a (by rw [h.all]; exact List.mem_append_left _ ha)
  have hDt : ∀ d ∈ D, l.tail ≤ d.at_ := fun d hd => by
    rcases h.tend with e | ⟨r, hr, e⟩
    · rw [e]; exact chain_ge hok hch d (by rw [h.all]; exact List.mem_append_right _ hd)
    · rw [e]; exact (List.pairwise_append.1 hpair).2.2 r hr d hd
  have hlow : ∀ a ∈ G, ¬ U ≤ a.at_ → a.fin ≤ U := fun a ha hn => by
    rcases hU with e | ⟨r, hr, e⟩
    · have := chain_ge hok hch a (by rw [h.all]; exact List.mem_append_left _ ha); omega
    · have haA : a ∈ K ++ New := by rw [h.all]; exact List.mem_append_left _ ha
      have hp2 := chain_pair hok hch
      have hrf := (hok r hr).finlt
      by_cases hra : r.at_ = a.at_
      · have := pair_eq hok hp2 r hr a haA hra
        rw [e, this]; exact Nat.le_refl _
      · obtain ⟨X, Y, hXY⟩ := List.append_of_mem haA
        rw [hXY] at hp2 hr
        rcases List.mem_append.1 hr with hX | hY
        · have := (List.pairwise_append.1 hp2).2.2 r hX a List.mem_cons_self
          omega
        · rcases List.mem_cons.1 hY with q | hY
          · rw [q] at hra; exact absurd rfl hra
          · have := (List.pairwise_cons.1 (List.pairwise_append.1 hp2).2.1).1 r hY
            omega
  refine ⟨?_, h.there, ?_, ?_, hUl, ?_, (fun n hn => by cases hn), h.perm, ?_, ?_⟩
  · rw [List.append_nil, h.all, List.filter_append]
    congr 1
    exact List.filter_eq_self.2 (fun d hd => by have := hDt d hd; simp; omega)
  · intro hg; rw [List.append_nil, he]; exact h.grown1 hg
  · intro hg; refine ⟨rfl, ?_⟩; rw [List.append_nil, he]; exact (h.grown0 hg).2
  · by_cases e : l.tail = U
    · exact .inl e
    · rcases h.tend with q | ⟨r, hr, q⟩
      · have := h.t0
        rcases hU with e2 | ⟨a, ha, e2⟩
        · omega
        · have := chain_ge hok hch a ha; have := (hok a ha).finlt; omega
      · refine .inr ⟨r, List.mem_filter.2 ⟨hr, ?_⟩, q⟩
        by_cases hn : U ≤ r.at_
        · simpa using hn
        · have := hlow r hr hn; omega
  · intro x hx
    rcases h.fins x hx with q | ⟨r, hr, q⟩
    · exact .inl q
    · by_cases hn : U ≤ r.at_
      · exact .inr ⟨r, List.mem_filter.2 ⟨hr, by simpa using hn⟩, q⟩
      · have := hlow r hr hn; left; omega
  · intro x hx a ha hxa
    exact h.cover x hx a (List.mem_filter.1 ha).1 hxa

theorem round_mem (N n a : Nat) (hN : 0 < N) : a ∈ roundL N n ↔ a < N := by
  unfold roundL
  rw [List.mem_map]
  constructor
  · rintro ⟨i, _, rfl⟩; exact Nat.mod_lt _ hN
  · intro ha
    have hm := Nat.mod_lt n hN
    by_cases h : n % N ≤ a
    · refine ⟨a - n % N, List.mem_range.2 (by omega), ?_⟩
      rw [show n % N + (a - n % N) = a from by omega, Nat.mod_eq_of_lt ha]
    · refine ⟨a + N - n % N, List.mem_range.2 (by omega), ?_⟩
      rw [show n % N + (a + N - n % N) = a + N from by omega, Nat.add_mod_right, Nat.mod_eq_of_lt ha]
theorem round_nodup (N n : Nat) (hN : 0 < N) : (roundL N n).Nodup := by
  unfold roundL List.Nodup
  rw [List.pairwise_map]
  have hm := Nat.mod_lt n hN
  refine (List.pairwise_lt_range (n := N)).imp_of_mem (fun {a b} ha hb hab e => ?_)
  have ha := List.mem_range.1 ha
  have hb := List.mem_range.1 hb
  have h1 : (n % N + a) % N = if n % N + a < N then n % N + a else n % N + a - N := by
    split
    · exact Nat.mod_eq_of_lt (by assumption)
    · rw [Nat.mod_eq_sub_mod (by omega), Nat.mod_eq_of_lt (by omega)]
  have h2 : (n % N + b) % N = if n % N + b < N then n % N + b else n % N + b - N := by
    split
    · exact Nat.mod_eq_of_lt (by assumption)
    · rw [Nat.mod_eq_sub_mod (by omega), Nat.mod_eq_of_lt (by omega)]
  rw [h1, h2] at e
  split at e <;> split at e <;> omega

theorem whole_nodup {V : Nat → Pc} {N : Nat} : ∀ {K : List Rr}, (∀ r ∈ K, RrOk N r) → K.Pairwise (fun a b => a.fin ≤ b.at_) → (∀ r ∈ K, Whole V r) → (K.flatMap Rr.blocks).Nodup
  | [], _, _, _ => List.nodup_nil
  | r :: K, hok, hp, hw => by
    obtain ⟨h1, h2⟩ := List.pairwise_cons.1 hp
    rw [List.flatMap_cons, List.nodup_append]
    refine ⟨(hok r List.mem_cons_self).nodup, whole_nodup (fun s hs => hok s (List.mem_cons_of_mem _ hs)) h2 (fun s hs => hw s (List.mem_cons_of_mem _ hs)), fun a ha b hb e => ?_⟩
    subst e
    obtain ⟨s, hs, has⟩ := List.mem_flatMap.1 hb
    obtain ⟨i, hi, ei⟩ := mem_getD ha
    obtain ⟨j, hj, ej⟩ := mem_getD has
    have w1 := hw r List.mem_cons_self i hi
    have w2 := hw s (List.mem_cons_of_mem _ hs) j hj
    rw [ei] at w1
    rw [ej, w1] at w2
    have : (r.pc i).at_ = (s.pc j).at_ := by rw [w2]
    have h3 : r.at_ = s.at_ := this
    have := h1 s hs
    have := (hok r List.mem_cons_self).finlt
    omega

/-- A log that is opened. -/
theorem li_open {V : Nat → Pc} {N T : Nat} {K : List Rr} (hN : 0 < N) (hok : ∀ r ∈ K, RrOk N r) (hch : Chain T K) (hw : ∀ r ∈ K, Whole V r) {Kw : List Wm} (hk : Kw.map whOf = K.map Rr.wh) (fr : Nat) : LI N T K [] (K.take (firstK fr Kw)) (K.drop (firstK fr Kw)) (logL N fr T (chainE T K) Kw) := by
  obtain ⟨j, hj⟩ : ∃ j, firstK fr Kw = j := ⟨_, rfl⟩
  have hnd := whole_nodup hok (chain_pair hok hch) hw
  have hpr : Kw.map (fun x => (x.at_, x.blocks)) = K.map (fun r => (r.at_, r.blocks)) := by
    have := congrArg (List.map (fun w : Wh => (w.at_, w.blocks))) hk
    rw [List.map_map, List.map_map] at this
    exact this
  have hD : Kw.flatMap Wm.blocks = K.flatMap Rr.blocks := by
    have := congrArg (List.flatMap (fun w : Nat × List Nat => w.2)) hpr
    rw [List.flatMap_map, List.flatMap_map] at this
    exact this
  have hgo : goneL (Kw.take j) = goneR (K.take j) := by
    have e : goneT ((Kw.take j).map tmOf) = goneL (Kw.take j) := by unfold goneT goneL; rw [List.flatMap_map]; rfl
    rw [← e]
    refine gone_eq _ _ ?_
    rw [List.map_map, List.map_take, List.map_take, ← hpr]
    rfl
  have hfree : (logL N fr T (chainE T K) Kw).free = emptyL N (max fr (chainE T K)) (K.flatMap Rr.blocks) ++ goneR (K.take j) := by
    show emptyL N _ (Kw.flatMap Wm.blocks) ++ goneL (Kw.take (firstK fr Kw)) = _
    rw [hD, hj, hgo]
  have hempty : ∀ n, (emptyL N n (K.flatMap Rr.blocks)).map Sl.block = (roundL N n).filter (fun b => decide (b ∉ K.flatMap Rr.blocks)) := fun n => by
    unfold emptyL
    rw [List.map_map]
    simp [Function.comp_def]
  have hemp : ∀ x ∈ emptyL N (max fr (chainE T K)) (K.flatMap Rr.blocks), x.fin = 0 ∧ x.block ∉ K.flatMap Rr.blocks := fun x hx => by
    unfold emptyL at hx
    obtain ⟨b, hb, rfl⟩ := List.mem_map.1 hx
    have := (List.mem_filter.1 hb).2
    exact ⟨rfl, by simpa using this⟩
  rw [hj]
  refine ⟨by rw [List.append_nil, List.take_append_drop], ?_, (fun e => by cases e), fun _ => ⟨rfl, by rw [List.append_nil]; exact Nat.le_max_right _ _⟩, Nat.le_refl _, .inl rfl, (fun n hn => by cases hn), ?_, ?_, ?_⟩
  · show ((Kw.drop (firstK fr Kw)).map tmOf).map _ = _
    rw [hj, List.map_map, List.map_drop, List.map_drop, ← hpr]
    rfl
  · rw [hfree, List.map_append, goneR_block, hempty, List.append_assoc, ← List.flatMap_append, List.take_append_drop]
    refine (List.perm_ext_iff_of_nodup ?_ List.nodup_range).2 (fun a => ?_)
    · rw [List.nodup_append]
      refine ⟨(round_nodup _ _ hN).filter _, hnd, fun a ha b hb e => ?_⟩
      subst e
      have := (List.mem_filter.1 ha).2
      simp at this
      obtain ⟨r, hr, hbr⟩ := List.mem_flatMap.1 hb
      exact this r hr hbr
    · rw [List.mem_append, List.mem_filter, round_mem _ _ _ hN, List.mem_range]
      constructor
      · rintro (⟨h, _⟩ | h)
        · exact h
        · obtain ⟨r, hr, har⟩ := List.mem_flatMap.1 h
          exact (hok r hr).lt a har
      · intro h
        by_cases hin : a ∈ K.flatMap Rr.blocks
        · exact .inr hin
        · exact .inl ⟨h, by simpa using hin⟩
  · intro x hx
    rw [hfree] at hx
    rcases List.mem_append.1 hx with hx | hx
    · left; rw [(hemp x hx).1]; exact Nat.zero_le _
    · obtain ⟨r, hr, _, q⟩ := goneR_mem hx
      exact .inr ⟨r, hr, q⟩
  · intro x hx a ha hxa
    rw [hfree] at hx
    rcases List.mem_append.1 hx with hx | hx
    · exact absurd (List.mem_flatMap.2 ⟨a, List.mem_of_mem_take ha, hxa⟩) (hemp x hx).2
    · obtain ⟨d, hd, hb, q⟩ := goneR_mem hx
      have := flat_same hnd a (List.mem_of_mem_take ha) d (List.mem_of_mem_take hd) _ hxa hb
      subst this
      omega

/-- A piece that was written is read back. -/
theorem enc_view {p : Pc} (h : PcOk p) : unE (encP p) = 0 ∧ bodyP (unB (encP p)) = full p := by
  unfold encP
  exact ⟨unE_seal _, by rw [unB_seal, bodyP_pad h]⟩
/-- Append's pieces are its record's. -/
theorem pc_app (l : Lo) (g : List ByteArray) (i : Nat) : full (appPc (if l.grown then 1 else 2) (tailS l.tail (l.free.take (piecesN (layL g).length))) l.next (layL g) i) = (appR l g).pc i := by
  unfold appPc appR Rr.pc Rr.bytes
  rw [Nat.mul_comm i 488]
theorem now_nil (N : Nat) (S : Nat → Pc) : Now N S S [] := fun i _ => .inl ⟨rfl, fun n hn => by cases hn⟩
/-- A record more is written. -/
theorem now_add {N : Nat} {S V V' : Nat → Pc} {New : List Rr} (h : Now N S V New) {r : Rr} (hin : ∀ j, j < r.blocks.length → V' (r.blocks.getD j 0) = r.pc j) (hout : ∀ i, i < N → i ∉ r.blocks → V' i = V i) : Now N S V' (New ++ [r]) := fun i hi => by
  by_cases hb : i ∈ r.blocks
  · obtain ⟨j, hj, e⟩ := mem_getD hb
    exact .inr ⟨New, r, [], rfl, (fun y hy => by cases hy), j, hj, e, by rw [← e]; exact hin j hj⟩
  · rw [hout i hi hb]
    rcases h i hi with ⟨q, hq⟩ | ⟨X, n, Y, e, hY, j, hj, e2, e3⟩
    · refine .inl ⟨q, fun n hn => ?_⟩
      rcases List.mem_append.1 hn with hn | hn
      · exact hq n hn
      · simp only [List.mem_singleton] at hn; subst hn; exact hb
    · refine .inr ⟨X, n, Y ++ [r], by rw [e]; simp, fun y hy => ?_, j, hj, e2, e3⟩
      rcases List.mem_append.1 hy with hy | hy
      · exact hY y hy
      · simp only [List.mem_singleton] at hy; subst hy; exact hb
/-- Some of a record more may be there. -/
theorem shows_add {N : Nat} {S V V' : Nat → Pc} {New : List Rr} (h : Shows N S V New) {r : Rr} (hV : ∀ i, i < N → V' i = V i ∨ ∃ j, j < r.blocks.length ∧ r.blocks.getD j 0 = i ∧ V' i = r.pc j) : Shows N S V' (New ++ [r]) := fun i hi => by
  rcases hV i hi with q | ⟨j, hj, e, q⟩
  · rcases h i hi with p | ⟨n, hn, j, hj, e, p⟩
    · exact .inl (by rw [q, p])
    · exact .inr ⟨n, List.mem_append_left _ hn, j, hj, e, by rw [q, p]⟩
  · exact .inr ⟨r, List.mem_append_right _ (by simp), j, hj, e, q⟩
theorem now_tail {S V : Nat → Pc} {N T U : Nat} {New : List Rr} (hS : tailK S N = T) (hV : Shows N S V New) (ht : ∀ n ∈ New, n.tail ≤ U) (hT : T ≤ U) : tailK V N ≤ U := by
  rcases tailK_is V N with e | ⟨i, hi, e⟩
  · omega
  · rcases hV i hi with q | ⟨n, hn, j, hj, _, q⟩
    · have := tailK_ge S N i hi
      rw [q] at e
      omega
    · have h1 : (V i).tail = n.tail := by rw [q]; rfl
      have := ht n hn
      omega

/-- A disk that is on, not armed, and has the ring. -/
structure Calm (s : St) (f : Int) (N : Nat) : Prop where
  on : s.off = false
  un : s.armed = false
  f0 : 0 ≤ f
  fn : f + N ≤ s.blocks

theorem calm_done {s : St} {f : Int} {N : Nat} (h : Calm s f N) (i : Int) (xs : List Int) : Calm (doneSt s i xs) f N ∧ (doneSt s i xs).safe = s.safe ∧ (doneSt s i xs).pend = upd s.pend i (some xs) := by
  have e : countSt s = s := by unfold countSt; rw [h.un]; rfl
  unfold doneSt
  rw [e]
  exact ⟨⟨h.on, h.un, h.f0, h.fn⟩, rfl, rfl⟩
theorem calm_write {s : St} {f : Int} {N : Nat} (h : Calm s f N) {b : Nat} (hb : b < N) {p : Pc} (hp : PcOk p) : writeOut s (f + b) (encP p) = (0, doneSt s (f + b) (encP p)) := by
  have h1 : useErr s (f + b) = 0 := by
    unfold useErr
    have := h.f0
    have := h.fn
    rw [h.on]
    simp
    omega
  have h2 : due s = false := by unfold due; rw [h.un]; rfl
  have h3 := (encP_blk hp).1
  unfold writeOut
  rw [if_neg (by rw [h1]; simp), if_neg (by rw [h3]; simp), h2]
  rfl

/-- All are written. -/
theorem wrS_calm : ∀ (L : List (Nat × Pc)) {s : St} {f : Int} {N : Nat}, Calm s f N → (∀ x ∈ L, x.1 < N ∧ PcOk x.2) → (L.map Prod.fst).Nodup → (wrS f L s).1 = 0 ∧ Calm (wrS f L s).2 f N ∧ (wrS f L s).2.safe = s.safe ∧ (∀ x ∈ L, (wrS f L s).2.pend (f + x.1) = some (encP x.2)) ∧ ∀ i, (∀ x ∈ L, i ≠ f + x.1) → (wrS f L s).2.pend i = s.pend i
  | [], s, f, N, h, _, _ => ⟨rfl, h, rfl, (fun x hx => by cases hx), fun i _ => rfl⟩
  | y :: L, s, f, N, h, hL, hnd => by
    obtain ⟨hy1, hy2⟩ := hL y List.mem_cons_self
    have hw := calm_write h hy1 hy2
    obtain ⟨c1, c2, c3⟩ := calm_done h (f + y.1) (encP y.2)
    rw [List.map_cons] at hnd
    obtain ⟨n1, n2⟩ := List.nodup_cons.1 hnd
    have e : wrS f (y :: L) s = wrS f L (doneSt s (f + y.1) (encP y.2)) := by
      show (if _ = 0 then _ else _) = _
      rw [hw]
      rfl
    obtain ⟨i1, i2, i3, i4, i5⟩ := wrS_calm L c1 (fun x hx => hL x (List.mem_cons_of_mem _ hx)) n2
    rw [e]
    refine ⟨i1, i2, by rw [i3, c2], fun x hx => ?_, fun i hi => ?_⟩
    · rcases List.mem_cons.1 hx with rfl | hx
      · rw [i5 _ (fun z hz q => n1 (List.mem_map.2 ⟨z, hz, by omega⟩)), c3]
        unfold upd
        simp
      · exact i4 x hx
    · rw [i5 i (fun z hz => hi z (List.mem_cons_of_mem _ hz)), c3]
      have := hi y List.mem_cons_self
      unfold upd
      simp [this]

end Go.Proofs.YtckcdmkgmbicfaaGreat
