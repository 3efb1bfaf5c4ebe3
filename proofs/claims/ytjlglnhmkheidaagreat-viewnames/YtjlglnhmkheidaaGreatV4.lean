/- VwNms, VwTell: in one text. -/
import Derived.Test.YtjlglnhmkheidaaGreatVwFrom
import Derived.Test.YtjlglnhmkheidaaGreatP3
import Derived.Test.YtjlglnhmkheidaaGreatV1
import Derived.Test.YtjlglnhmkheidaaGreatDlAll
namespace Go.Proofs.YtjlglnhmkheidaaGreat
open Go.RowKit
set_option linter.unusedVariables false
set_option linter.unusedSimpArgs false
set_option maxRecDepth 4000

open Go.RowKit Go.Shelf
set_option maxRecDepth 100000
attribute [local go_sem] Oper.semAt_some

theorem read_all (w : World) (s : ByteArray) : Calls Tryz.prog 77 #[.string s] w fun e w' => e = .returned (.tuple #[plV (rdP s), .int .i64 (rdE s)]) ∧ Below w.heap.size w w' := by
  by_cases h : s.size = 14
  · exact read_in w s h
  · obtain ⟨e1, e2⟩ := rd_no (s := s) (by unfold rdOk; simp [h])
    rw [e1, e2]
    exact read_size w s (by omega)

def nmE (s : ByteArray) : Array Value := #[.string s, .int .i64 0]
theorem okE_nm {s : ByteArray} (h : s.size ≤ 8) : okE (nmE s) := fun t e => by
  unfold nmE at e
  simp only [List.getElem?_toArray, List.getElem?_cons_zero, Option.some.injEq, Value.string.injEq] at e
  rw [← e]; exact h
theorem rd_size {s : ByteArray} (h : rdOk s = true) : (rdP s).name.size ≤ 8 := by
  obtain ⟨e, _⟩ := rd_yes h
  unfold rdOk at h
  simp only [Bool.and_eq_true, decide_eq_true_iff, beq_iff_eq] at h
  rw [e]; exact plOk_size h.1.2
/-- The name that a pair tells, if its key is a place's. -/
def nmOf (p : ByteArray × ByteArray) : List ByteArray := if rdOk p.1 then [(rdP p.1).name] else []
def nmS (l : List (ByteArray × ByteArray)) : List ByteArray := l.flatMap nmOf
/-- The types of the variables that the iterators have. -/
def TV (xv : List Nat) : Keep := ⟨[107, 23], xv⟩

theorem namesOf_any (w : World) (gf : Nat) (lb : Array Value) (t : ByteArray) : Calls Tryz.prog 44 #[.func (.func gf) #[] lb, .string t] w fun e w' =>
    e = .returned (.func (.func 76) #[] #[.pointer (some ⟨w.heap.size, 0, none⟩), .pointer (some ⟨w.heap.size + 1, 0, none⟩)]) ∧ w' = (w.alloc (.cells #[.func (.func gf) #[] lb] 113)).alloc (.cells #[.string t] 9) := by
  go_enter Tryz.func44, Tryz.ntmps44
  go_wp2
  go_ret
  exact ⟨rfl, rfl⟩

theorem take_stop {t : ByteArray} {l pre : List (ByteArray × ByteArray)} {x : ByteArray × ByteArray} {j : Nat} (h : pre ++ [x] = l.take j) (h1 : ∀ p ∈ pre, ltS p.1 t = true) (h2 : ltS x.1 t = false) : (l.takeWhile fun p => ltS p.1 t) = pre := by
  rw [← List.take_append_drop j l, ← h, List.append_assoc, List.takeWhile_append_of_pos h1]
  simp [h2]
theorem take_all {t : ByteArray} {l : List (ByteArray × ByteArray)} (h1 : ∀ p ∈ l, ltS p.1 t = true) : (l.takeWhile fun p => ltS p.1 t) = l := by
  have := List.takeWhile_append_of_pos (l₂ := []) h1
  simpa using this
theorem nmS_snoc (l : List (ByteArray × ByteArray)) (x : ByteArray × ByteArray) : nmS (l ++ [x]) = nmS l ++ nmOf x := by simp [nmS]

theorem nmS_pre {A B : List (ByteArray × ByteArray)} (h : A <+: B) : nmS A <+: nmS B := by
  obtain ⟨t, rfl⟩ := h
  exact ⟨nmS t, by simp [nmS]⟩
theorem tw_pre {t : ByteArray} : ∀ {l : List (ByteArray × ByteArray)} {j : Nat}, (∀ p ∈ l.take j, ltS p.1 t = true) → l.take j <+: l.takeWhile fun p => ltS p.1 t
  | [], j, _ => by simp
  | x :: l, 0, _ => by simp
  | x :: l, j + 1, h => by
    rw [List.take_succ_cons] at h ⊢
    have hx := h x (by simp)
    simp only [List.takeWhile_cons, hx, if_true]
    exact (List.prefix_cons_inj x).2 (tw_pre fun p hp => h p (List.mem_cons_of_mem _ hp))
theorem nmS_len (l : List (ByteArray × ByteArray)) : (nmS l).length ≤ l.length := by
  induction l with
  | nil => simp [nmS]
  | cons x l ih =>
    have e : nmS (x :: l) = nmOf x ++ nmS l := by simp [nmS]
    have h1 : (nmOf x).length ≤ 1 := by unfold nmOf; split <;> simp
    rw [e, List.length_append, List.length_cons]
    omega

set_option maxHeartbeats 4000000 in
theorem names_own (xv : List Nat) (n : Nat) (gf : Nat) (lb : Array Value) (eg : ∀ args w, (callFunc gf args).run Tryz.prog w = .ok (.enter gf args) w) (B1 B2 : Nat) (t : ByteArray) (l : List (ByteArray × ByteArray)) (N : Nat) (n₀ : Nat) (w : World) (hB1 : B1 < n₀) (hB2 : B2 < n₀) (hx2 : B2 ∉ xv) (hn₀ : n₀ ≤ w.heap.size)
    (hc1 : w.cell? ⟨B1, 0, none⟩ = some (.func (.func gf) #[] lb)) (hc2 : w.cell? ⟨B2, 0, none⟩ = some (.string t))
    (hseq : ∀ m, SeqOwn m Tryz.prog gf lb kvE (TV xv) n₀ (fun ys => ys = l) (fun pre => ∃ j, pre = l.take j) N w) (M : Nat) (hM : N ≤ M) :
    SeqOwn n Tryz.prog 76 #[.pointer (some ⟨B1, 0, none⟩), .pointer (some ⟨B2, 0, none⟩)] nmE (TV xv) n₀ (fun ys => ys = nmS (l.takeWhile fun p => ltS p.1 t)) (fun pre => pre <+: nmS (l.takeWhile fun p => ltS p.1 t)) M w := fun L J Jx W n₁ hW hn₁ hJ hJx hJt hJxt hY h0 => by
  have hbA : Below W.heap.size W (W.alloc (.cells #[.func (.yield L) #[] #[]] 107)) := (Below.refl _ W).alloc (Nat.le_refl _) _
  have bX : Boxed (W.alloc (.cells #[.func (.yield L) #[] #[]] 107)) W.heap.size 107 (.func (.yield L) #[] #[]) := Boxed.new W _ _
  have hbw : Below w.heap.size w (W.alloc (.cells #[.func (.yield L) #[] #[]] 107)) := hW.trans (hbA.mono hW.size)
  have hsz : (W.alloc (.cells #[.func (.yield L) #[] #[]] 107)).heap.size = W.heap.size + 1 := by simp
  have hJ2 := own_next hJ h0 hbA
  obtain ⟨W2, hW2⟩ : ∃ W2, W.alloc (.cells #[.func (.yield L) #[] #[]] 107) = W2 := ⟨_, rfl⟩
  rw [hW2] at hbA bX hbw hsz hJ2
  have d1 := (hbw.cell (p := ⟨B1, 0, none⟩) (by show B1 < _; omega)).trans hc1
  have d2 := (hbw.cell (p := ⟨B2, 0, none⟩) (by show B2 < _; omega)).trans hc2
  have hws := hW.size
  refine callsIn_of_wp_marks Tryz.func76 rfl trivial ?_ rfl
  simp only [Tryz.ntmps76, List.size_toArray, List.length_cons, List.length_nil, Nat.reduceAdd, Nat.reduceSub, Array.replicate_succ, Array.replicate_zero, List.push_toArray, List.append_toArray, List.nil_append, List.cons_append]
  gi_wp2
  refine range_own (gf := gf) (lb := lb) rfl eg (hseq _) hbw (by omega) (fun _ => rfl)
    (fun pre X => (∀ p ∈ pre, ltS p.1 t = true) ∧ J (nmS pre) X ∧ Boxed X W.heap.size 107 (.func (.yield L) #[] #[]) ∧ BelX xv n₀ W2 X)
    (fun c pre X => c = .ret ∧ ((∃ pre' x, pre = pre' ++ [x] ∧ (∀ p ∈ pre', ltS p.1 t = true) ∧ ltS x.1 t = false ∧ J (nmS pre') X) ∨ ∃ pre' x, pre = pre' ++ [x] ∧ (∀ p ∈ pre' ++ [x], ltS p.1 t = true) ∧ Jx (nmS (pre' ++ [x])) X))
    ?ownI ?ownX ?abI ?abX ⟨by simp, hJ2, bX, BelX.refl _ _ _⟩
    (fun x a' X => ∃ Bx, X.heap[Bx]? = some (.cells #[.string x.1, .string x.2] 90 (0, 0)) ∧ a' = { tmps := #[.func (.yield L) #[] #[], .pointer (some ⟨B1, 0, none⟩), .pointer (some ⟨B2, 0, none⟩), .pointer (some ⟨W.heap.size, 0, none⟩), .pointer (some ⟨Bx, 0, none⟩), .int .i64 0, undef, undef, .func (.func gf) #[] lb, .agg #[.string x.1, .string x.2], .int .i64 0, undef, undef, undef, undef, undef, undef, undef, undef, undef, undef, undef, undef, undef, undef, undef, undef, undef, undef, undef, undef, undef, undef, undef, undef], defers := [] })
    ?ownA ?assign ?body ?done ?stop
  case ownI => exact (own_pure _ _).and ((fun s => own_up hJ (by omega) (nmS s)) |> fun h => OwnFrom.and (fun s X X' row hs hg hr => h s X X' row hs hg hr) ((own_box _ _ _ _).and (own_belX (by omega) (by omega))))
  case ownX =>
    intro c s X X' row hs hg hr
    obtain ⟨h1, ⟨pre', x, h2, h3, h4, h5⟩ | ⟨pre', x, h2, h3, h5⟩⟩ := hs
    · exact ⟨h1, .inl ⟨pre', x, h2, h3, h4, own_up hJ (by omega) (nmS pre') X X' row h5 hg hr⟩⟩
    · exact ⟨h1, .inr ⟨pre', x, h2, h3, own_up hJx (by omega) _ X X' row h5 hg hr⟩⟩
  case abI =>
    rintro s X b cs ty v ⟨h1, h2, h3, h4⟩ hb ht e
    exact ⟨h1, hJt _ X b cs ty v h2 (by omega) ht e, (heap_setCell_other X ⟨b, 0, none⟩ _ v (by show W.heap.size ≠ b; omega)).trans h3, h4.setCell (p := ⟨b, 0, none⟩) (by show n₀ ≤ b; omega) v⟩
  case abX =>
    rintro c s X b cs ty v ⟨h1, ⟨pre', x, h2, h3, h4, h5⟩ | ⟨pre', x, h2, h3, h5⟩⟩ hb ht e
    · exact ⟨h1, .inl ⟨pre', x, h2, h3, h4, hJt _ X b cs ty v h5 (by omega) ht e⟩⟩
    · exact ⟨h1, .inr ⟨pre', x, h2, h3, hJxt _ X b cs ty v h5 (by omega) ht e⟩⟩
  case ownA =>
    intro x a' s X X' row hs hg hr
    obtain ⟨Bx, h1, h2⟩ := hs
    exact ⟨Bx, own_cells (β := Unit) _ Bx _ _ () X X' row h1 hg hr, h2⟩
  case assign =>
    rintro l' pre x X K ⟨h1, h2, h3, h4⟩ hK
    have hb : Below X.heap.size X (X.alloc (.cells #[.string x.1, .string x.2] 90)) := (Below.refl _ X).alloc (Nat.le_refl _) _
    have hxs := h4.size
    unfold kvE
    gi_wp2
    refine hK _ _ ⟨hb.size, fun k o _ e _ => (hb.block k (Array.getElem?_eq_some_iff.1 e).1).trans e⟩ (KpN.of_below hb (by omega)) ⟨h1, own_next hJ h2 hb, h3.alloc _, h4.trans (BelX.of (hb.mono (by omega)))⟩ ⟨X.heap.size, heap_alloc_new X _, rfl⟩
  case body =>
    rintro l' pre x a' X hV hl ⟨h1, h2, h3, h4⟩ ⟨Bx, hBx, rfl⟩ hlen
    have hxs := h4.size
    have x0 : X.cell? ⟨Bx, 0, none⟩ = some (.string x.1) := by rw [cell_of_row _ _ _ _ _ (0, 0) hBx]; rfl
    have e2 := (h4.cell (p := ⟨B2, 0, none⟩) (by show B2 < _; omega) hx2).trans d2
    have e3 := h3.cell
    cases hx : Op.bytesLess x.1.toList t.toList
    · gi_wp2
      exact ⟨KeepsFrom.refl _ _, KpN.refl _ _ _, rfl, .inl ⟨pre, x, rfl, h1, hx, h2⟩⟩
    · have hall : ∀ p ∈ pre ++ [x], ltS p.1 t = true := fun p hp => by
        rcases List.mem_append.1 hp with hp | hp
        · exact h1 p hp
        · rw [List.mem_singleton] at hp; rw [hp]; exact hx
      have cr := read_all X x.1
      unfold plV at cr
      have hnl : (nmS pre).length ≤ pre.length := nmS_len pre
      gi_wp2
      refine ⟨trivial, (fun h => by cases h), ?_⟩
      refine (CallsIn.inRound l' (callsIn_wide.2 cr)).mono ?_
      rintro e w5 ⟨rfl, hb5⟩
      clear cr
      have hbP : Below w5.heap.size w5 (w5.alloc (.cells #[.int .u32 (rdP x.1).ino, .int .i64 (rdP x.1).part, .string (rdP x.1).name, .int .u32 (rdP x.1).chunk] 26)) := (Below.refl _ w5).alloc (Nat.le_refl _) _
      have hP : PlAt (w5.alloc (.cells #[.int .u32 (rdP x.1).ino, .int .i64 (rdP x.1).part, .string (rdP x.1).name, .int .u32 (rdP x.1).chunk] 26)) w5.heap.size (rdP x.1) := ⟨heap_alloc_new w5 _⟩
      have hb6 := thenB hb5 hbP
      have hJ6 := own_next hJ h2 hb6
      have h36 : Boxed (w5.alloc (.cells #[.int .u32 (rdP x.1).ino, .int .i64 (rdP x.1).part, .string (rdP x.1).name, .int .u32 (rdP x.1).chunk] 26)) W.heap.size 107 (.func (.yield L) #[] #[]) := (hb6.block _ h3.lt).trans h3
      have h46 := h4.trans (BelX.of (hb6.mono (show n₀ ≤ X.heap.size by omega)))
      obtain ⟨w6, hw6⟩ : ∃ w6, w5.alloc (.cells #[.int .u32 (rdP x.1).ino, .int .i64 (rdP x.1).part, .string (rdP x.1).name, .int .u32 (rdP x.1).chunk] 26) = w6 := ⟨_, rfl⟩
      rw [hw6] at hP hb6 hJ6 h36 h46
      have p2 := hP.c2
      have e36 := h36.cell
      have k6 : KpN (TV xv) n₀ n₁ X w6 := KpN.of_below hb6 (by omega)
      clear hbP hb5
      cases hr : rdOk x.1
      · have er := (rd_no hr).2
        have hnn : nmS (pre ++ [x]) = nmS pre := by rw [nmS_snoc]; unfold nmOf; rw [hr]; simp
        rw [er]
        gi_wp2
        refine ⟨fun _ h => (by cases h), ?_⟩
        gi_wp2
        exact ⟨from_up k6.non (by omega), k6.up (by omega), hall, by rw [hnn]; exact hJ6, h36, h46⟩
      · have er := (rd_yes hr).2
        have hnn : nmS (pre ++ [x]) = nmS pre ++ [(rdP x.1).name] := by rw [nmS_snoc]; unfold nmOf; rw [hr]; simp
        obtain ⟨fn, tmps, assign, body, hy, hR⟩ := hY (nmS pre) (rdP x.1).name w6 (okE_nm (rd_size hr)) hJ6 (by omega)
        unfold nmE at hy
        rw [er]
        gi_wp2
        refine ⟨(fun h => by cases h), (round_any hR).mono ?_⟩
        rintro e W3 (⟨rfl, hJ3, hk3⟩ | ⟨rfl, hJx3, hk3⟩)
        · have k7 := k6.trans hk3
          have h37 : Boxed W3 W.heap.size 107 (.func (.yield L) #[] #[]) := hk3.typ _ _ _ _ hn₁ (by unfold TV; simp) h36
          gi_wp2
          exact ⟨from_up k7.non (by omega), k7.up (by omega), hall, by rw [hnn]; exact hJ3, h37, h46.trans hk3.bel⟩
        · have k7 := k6.trans hk3
          gi_wp2
          exact ⟨from_up k7.non (by omega), k7.up (by omega), rfl, .inr ⟨pre, x, rfl, hall, by rw [hnn]; exact hJx3⟩⟩
  case done =>
    rintro D ys X hD rfl ⟨h1, h2, h3, h4⟩ hK
    gi_wp2
    refine ⟨by simp, .inl ⟨_, _, rfl, run_takeDeferred hK, ?_⟩⟩
    refine ⟨_, results_none rfl _ _ _, ⟨_, rfl⟩, .inl ⟨_, rfl, ?_⟩⟩
    rw [take_all h1]
    exact hJ.putObj _ h2 (by omega) hK rfl
  case stop =>
    rintro D c pre X hD ⟨j, hj⟩ ⟨rfl, hor⟩ hK
    gi_wp2
    refine ⟨by simp, .inl ⟨_, _, rfl, run_takeDeferred hK, ?_⟩⟩
    refine ⟨_, results_none rfl _ _ _, ⟨_, rfl⟩, ?_⟩
    rcases hor with ⟨pre', x, rfl, h3, h4, h5⟩ | ⟨pre', x, rfl, h3, h5⟩
    · refine .inl ⟨_, rfl, ?_⟩
      rw [take_stop hj h3 h4]
      exact hJ.putObj _ h5 (by omega) hK rfl
    · refine .inr ⟨_, ?_, hJx.putObj _ h5 (by omega) hK rfl⟩
      rw [hj] at h3 ⊢
      exact nmS_pre (tw_pre h3)

open Go.RowKit Go.Shelf
set_option maxRecDepth 100000
attribute [local go_sem] Oper.semAt_some

/-- The names that changes set. -/
def setN (C : List Cg) : List ByteArray := (C.filter fun c => !c.gone).map fun c => c.pl.name
theorem setN_take {C : List Cg} {j : Nat} (hj : j < C.length) : setN (C.take (j + 1)) = setN (C.take j) ++ (if (C.getD j cg0).gone then [] else [(C.getD j cg0).pl.name]) := by
  have e : C.take (j + 1) = C.take j ++ [C.getD j cg0] := by rw [List.take_add_one, List.getElem?_eq_getElem hj, List.getD_eq_getElem?_getD, List.getElem?_eq_getElem hj]; rfl
  rw [e]
  unfold setN
  rw [List.filter_append, List.map_append]
  generalize C.getD j cg0 = c
  cases h : c.gone <;> simp [h]
theorem setN_app (A B : List Cg) : setN (A ++ B) = setN A ++ setN B := by simp [setN]
theorem setN_pre (C : List Cg) (j : Nat) : setN (C.take j) <+: setN C := ⟨setN (C.drop j), by rw [← setN_app, List.take_append_drop]⟩
theorem setN_len (C : List Cg) : (setN C).length ≤ C.length := by unfold setN; rw [List.length_map]; exact List.length_filter_le _ _

set_option maxHeartbeats 4000000 in
/-- Each name is handed to yield, as long as it goes on. -/
theorem tellSet_in {xv : List Nat} {n : Nat} {L : Nat} {J Jx : List ByteArray → World → Prop} {n₀ n₁ : Nat} {M : Nat} {B0 : Nat} {m : Nat} (pre : List ByteArray) (C : List Cg) (hC : ∀ c ∈ C, CgOk c) (h8 : ∀ c ∈ C, c.pl.name.size ≤ 8) (a : Option Addr) (len cap : Nat) (W : World) (hn : n₀ ≤ W.heap.size) (hJ : OwnFrom B0 J)
    (hrd : RdC W (.slice a len cap) C) (hlow : ∀ b off, a = some ⟨b, off, none⟩ → b < n₀ ∧ b ∉ xv) (hnc : len ≤ cap) (hcm : cap ≤ maxLen) (hlen : pre.length + C.length ≤ M)
    (hY : ∀ pre x W1, okE (nmE x) → J pre W1 → pre.length < M → YieldAt Fence.wide m Tryz.prog L (nmE x) W1 fun e W' => (e = .returned (.bool true) ∧ J (pre ++ [x]) W' ∧ KpN (TV xv) n₀ n₁ W1 W') ∨ (e = .returned (.bool false) ∧ Jx (pre ++ [x]) W' ∧ KpN (TV xv) n₀ n₁ W1 W')) (h0 : J pre W) :
    CallsIn Fence.wide n Tryz.prog 75 #[.slice a len cap, .func (.yield L) #[] #[]] W fun e W' => KpN (TV xv) n₀ n₁ W W' ∧ ((e = .returned (.bool true) ∧ J (pre ++ setN C) W') ∨ (e = .returned (.bool false) ∧ ∃ q, Jx q W' ∧ q <+: pre ++ setN C)) := by
  obtain ⟨hl, hI⟩ := hrd.range hC
  unfold maxLen at hcm
  have hz := zeroCg
  have len0 : cg0.pt.bytes.length = 32 := cg0_ok.pt.ch.1
  refine callsIn_of_wp Tryz.func75 rfl trivial ?_ rfl
  simp only [Tryz.ntmps75, List.size_toArray, List.length_cons, List.length_nil, Nat.reduceAdd, Nat.reduceSub, Array.replicate_succ, Array.replicate_zero, List.push_toArray, List.append_toArray, List.nil_append, List.cons_append]
  gi_wp2
  gi_loopw [6, 9] (fun _ t wr => ∃ j : Nat, j ≤ len ∧ t = .int .i64 j ∧ J (pre ++ setN (C.take j)) wr ∧ KpN (TV xv) n₀ n₁ W wr) (fun _ t _ => len - (intOf t).toNat)
  case atStart => exact ⟨0, Nat.zero_le _, rfl, by simpa [setN] using h0, KpN.refl _ _ _⟩
  case round =>
    obtain ⟨j, hj, rfl, hJs, hk⟩ := hrel
    by_cases hlt : j < len
    · have hltI : (j : Int) < len := by omega
      obtain ⟨b, off, rfl, hb, hcs⟩ := hI (by omega)
      have hbn := hlow b off rfl
      have hjC : j < C.length := by omega
      have hx : C[j]? = some (C.getD j cg0) := by rw [List.getD_eq_getElem?_getD, List.getElem?_eq_getElem hjC]; rfl
      have hok : CgOk (C.getD j cg0) := hC _ (List.mem_of_getElem? hx)
      have hrg : wr.rangeAt b (off + j * 46) (cgL (C.getD j cg0)) := fun i u hu => (hk.bel.cell (p := ⟨b, off + j * 46 + i, none⟩) hbn.1 hbn.2).trans (hcs _ hlt i u hu)
      have hT := setN_take hjC
      have hsl := setN_len (C.take j)
      obtain ⟨c, hce⟩ : ∃ c, C.getD j cg0 = c := ⟨_, rfl⟩
      rw [hce] at hok hrg hT
      have HLD : Hid _ := range_load hrg hok
      have HL : Hid (c.pt.bytes.length = 32) := hok.pt.ch.1
      have HNL : Hid (c.pl.name.size ≤ 8) := h8 c (by rw [← hce, List.getD_eq_getElem?_getD, List.getElem?_eq_getElem hjC]; exact List.getElem_mem _)
      clear hcs hce hx hrg
      have hks := hk.bel.size
      have hn3 := CgAt.laid wr cg0
      have hb3 := alloc_row (A := wr) (.cells (cgC cg0) 56) (cgC c)
      have hc3 := hn3.setRow c
      obtain ⟨w3, hw3⟩ : ∃ w3, (wr.alloc (.cells (cgC cg0) 56)).setRow wr.heap.size (cgC c) = w3 := ⟨_, rfl⟩
      rw [hw3] at hb3 hc3
      have k3 : KpN (TV xv) n₀ n₁ W w3 := hk.trans (KpN.of_below hb3 (by omega))
      have hJ3 := own_next hJ hJs hb3
      have x2 := hc3.c2
      have x4 := hc3.c4
      cases hg : c.gone
      · rw [hg] at x4 hT
        obtain ⟨fn, tmps, assign, body, hy, hR⟩ := hY (pre ++ setN (C.take j)) c.pl.name w3 (okE_nm HNL.out) hJ3 (by rw [List.length_append]; rw [List.length_take] at hsl; omega)
        unfold nmE at hy
        gi_wp2_with (first
          | (refine wpListIn_loadS rfl 56 _ rfl _ rfl _ HLD.out ?_)
          | (refine wpListIn_storeS rfl 56 _ _ rfl wr.heap.size (cgC c) rfl rfl 56 (cgC cg0) hn3.row (by rw [cgC_size HL.out]; exact size_cg) (by rw [cgC_size HL.out, cgC_size len0]) (one_cg c) ?_; rw [hw3]))
        refine ⟨(fun h => by cases h), (round_wide hR).mono ?_⟩
        rintro e W3 (⟨rfl, hJ4, hk4⟩ | ⟨rfl, hJx4, hk4⟩)
        · gi_wp2
          go_roundw
          case rel => exact ⟨j + 1, by omega, by simp, by rw [hT, ← List.append_assoc]; simpa using hJ4, k3.trans hk4⟩
          case measure => simp [intOf]; omega
        · gi_wp2
          refine bodyPost_ret (results_tmp rfl _ _ _) rfl ?_
          refine ⟨k3.trans hk4, .inr ⟨rfl, _, hJx4, ?_⟩⟩
          have e : pre ++ setN (C.take j) ++ [c.pl.name] = pre ++ setN (C.take (j + 1)) := by rw [hT]; simp
          rw [e]
          exact (List.prefix_append_right_inj pre).2 (setN_pre C (j + 1))
      · rw [hg] at x4 hT
        gi_wp2_with (first
          | (refine wpListIn_loadS rfl 56 _ rfl _ rfl _ HLD.out ?_)
          | (refine wpListIn_storeS rfl 56 _ _ rfl wr.heap.size (cgC c) rfl rfl 56 (cgC cg0) hn3.row (by rw [cgC_size HL.out]; exact size_cg) (by rw [cgC_size HL.out, cgC_size len0]) (one_cg c) ?_; rw [hw3]))
        refine ⟨fun _ h => (by cases h), ?_⟩
        gi_wp2
        go_roundw
        case rel => exact ⟨j + 1, by omega, by simp, by rw [hT]; simpa using hJ3, k3⟩
        case measure => simp [intOf]; omega
    · obtain rfl : j = len := by omega
      have hltI : ¬ (j : Int) < j := by omega
      rw [List.take_of_length_le (by omega)] at hJs
      gi_wp2
      refine bodyPost_ret (results_tmp rfl _ _ _) rfl ?_
      exact ⟨hk, .inl ⟨rfl, hJs⟩⟩

end Go.Proofs.YtjlglnhmkheidaaGreat
