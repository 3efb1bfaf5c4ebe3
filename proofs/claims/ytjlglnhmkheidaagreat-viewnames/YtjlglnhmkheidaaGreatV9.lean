/- VwSpan, VwCount: in one text. -/
import Derived.Test.YtjlglnhmkheidaaGreatV8
import Derived.Test.YtjlglnhmkheidaaGreatV5
import Derived.Test.YtjlglnhmkheidaaGreatP4
import Derived.Test.YtjlglnhmkheidaaGreatV7
namespace Go.Proofs.YtjlglnhmkheidaaGreat
open Go.RowKit
set_option linter.unusedVariables false
set_option linter.unusedSimpArgs false
set_option maxRecDepth 4000

theorem dropWhile_ge {k : ByteArray} : ∀ {l : List (ByteArray × ByteArray)}, RisK l → ∀ p ∈ l.dropWhile (fun p => ltS p.1 k), ltS p.1 k = false
  | [], _, p, hp => by cases hp
  | x :: l, h, p, hp => by
    obtain ⟨h1, h2⟩ := List.pairwise_cons.1 h
    cases hx : ltS x.1 k
    · rw [List.dropWhile_cons_of_neg (by simp [hx])] at hp
      rcases List.mem_cons.1 hp with rfl | hp
      · exact hx
      · cases hq : ltS p.1 k
        · rfl
        · rw [ltS_trans (h1 p hp) hq] at hx
          cases hx
    · rw [List.dropWhile_cons_of_pos (by simp [hx])] at hp
      exact dropWhile_ge h2 p hp
theorem takeWhile_lt {k : ByteArray} {l : List (ByteArray × ByteArray)} : ∀ p ∈ l.takeWhile (fun p => ltS p.1 k), ltS p.1 k = true := fun p hp => by
  have := List.all_takeWhile (p := fun p : ByteArray × ByteArray => ltS p.1 k) (l := l)
  exact List.all_eq_true.1 this p hp
theorem drop_fd (l : List (ByteArray × ByteArray)) (k : ByteArray) : l.drop (fdN l k) = l.dropWhile fun p => ltS p.1 k := by
  unfold fdN
  have h := List.takeWhile_append_dropWhile (p := fun p : ByteArray × ByteArray => ltS p.1 k) (l := l)
  have e : l.drop (l.takeWhile fun p => ltS p.1 k).length = (l.takeWhile (fun p => ltS p.1 k) ++ l.dropWhile (fun p => ltS p.1 k)).drop (l.takeWhile fun p => ltS p.1 k).length := by rw [h]
  rw [e, List.drop_left]

/-- A pair that is an entry of a directory. -/
def entB (ino : Int) (p : ByteArray × ByteArray) : Bool := rdOk p.1 && ((rdP p.1).ino == ino && (rdP p.1).part == 2)
theorem key_of_rd {s : ByteArray} (h : rdOk s = true) : PlOk (rdP s) ∧ plOk (rdP s) = true ∧ (keyS (rdP s)).toList = s.toList := by
  obtain ⟨e, _⟩ := rd_yes h
  unfold rdOk at h
  simp only [Bool.and_eq_true, decide_eq_true_iff, beq_iff_eq] at h
  rw [e]
  exact ⟨plOf_ok _ (strB_byt s) (by rw [strB_length]; exact h.1.1), h.1.2, h.2⟩
theorem rd_between {s : ByteArray} (h : rdOk s = true) (ino : Int) (h0 : 0 < ino) (h1 : ino ≤ 4294967295) : (!ltS s (spF ino 2) && ltS s (spT ino 2)) = ((rdP s).ino == ino && (rdP s).part == 2) := by
  obtain ⟨hp, hk, he⟩ := key_of_rd h
  have hs : spOk ino 2 = true := by unfold spOk; simp; omega
  obtain ⟨_, ef, et⟩ := spOk_yes hs
  have hbt := between (rdP s) hp hk ino 2 (by omega) h1 (by decide) (by decide)
  have hl1 := less_str (keyP (rdP s)) (keyL ino 2 []) (keyP_byt _) (keyL_byt _ _ _ Byt.nil)
  have hl2 := less_str (keyP (rdP s)) (keyL ino (2 + 1) []) (keyP_byt _) (keyL_byt _ _ _ Byt.nil)
  rw [← keyS_yes hk, ← ef, he] at hl1
  rw [← keyS_yes hk, ← et, he] at hl2
  rw [← hl1, ← hl2] at hbt
  exact hbt

theorem nmS_count (l : List (ByteArray × ByteArray)) : (nmS l).length = l.countP fun p => rdOk p.1 := by
  induction l with
  | nil => rfl
  | cons x l ih =>
    have : nmS (x :: l) = nmOf x ++ nmS l := by simp [nmS]
    rw [this, List.length_append, ih, List.countP_cons]
    unfold nmOf
    cases rdOk x.1 <;> simp <;> omega
theorem names_none (l : List (ByteArray × ByteArray)) (hl : RisK l) (ino : Int) (h0 : 0 < ino) (h1 : ino ≤ 4294967295) : (nmS ((l.drop (fdN l (spF ino 2))).takeWhile fun p => ltS p.1 (spT ino 2))).length = l.countP (entB ino) := by
  rw [nmS_count, drop_fd]
  have e1 := List.takeWhile_append_dropWhile (p := fun p : ByteArray × ByteArray => ltS p.1 (spF ino 2)) (l := l)
  obtain ⟨A, hA⟩ : ∃ A, l.takeWhile (fun p => ltS p.1 (spF ino 2)) = A := ⟨_, rfl⟩
  obtain ⟨D, hD⟩ : ∃ D, l.dropWhile (fun p => ltS p.1 (spF ino 2)) = D := ⟨_, rfl⟩
  have qA : ∀ p ∈ A, ltS p.1 (spF ino 2) = true := by rw [← hA]; exact takeWhile_lt
  have qD : ∀ p ∈ D, ltS p.1 (spF ino 2) = false := by rw [← hD]; exact dropWhile_ge hl
  have rD : RisK D := by rw [← hD]; exact hl.sublist (List.dropWhile_sublist _)
  rw [hA, hD] at e1
  rw [hD]
  have e2 := List.takeWhile_append_dropWhile (p := fun p : ByteArray × ByteArray => ltS p.1 (spT ino 2)) (l := D)
  obtain ⟨S, hS⟩ : ∃ S, D.takeWhile (fun p => ltS p.1 (spT ino 2)) = S := ⟨_, rfl⟩
  obtain ⟨E, hE⟩ : ∃ E, D.dropWhile (fun p => ltS p.1 (spT ino 2)) = E := ⟨_, rfl⟩
  have qS : ∀ p ∈ S, ltS p.1 (spT ino 2) = true := by rw [← hS]; exact takeWhile_lt
  have qE : ∀ p ∈ E, ltS p.1 (spT ino 2) = false := by rw [← hE]; exact dropWhile_ge rD
  rw [hS, hE] at e2
  rw [hS, ← e1, ← e2, List.countP_append, List.countP_append]
  have zA : A.countP (entB ino) = 0 := List.countP_eq_zero.2 fun p hp => by
    unfold entB
    cases h : rdOk p.1
    · simp
    · rw [← rd_between h ino h0 h1, qA p hp]; simp
  have zE : E.countP (entB ino) = 0 := List.countP_eq_zero.2 fun p hp => by
    unfold entB
    cases h : rdOk p.1
    · simp
    · rw [← rd_between h ino h0 h1, qE p hp]; simp
  have zS : S.countP (entB ino) = S.countP fun p => rdOk p.1 := List.countP_congr fun p hp => by
    unfold entB
    cases h : rdOk p.1
    · simp
    · rw [← rd_between h ino h0 h1, qS p hp, qD p (by rw [← e2]; exact List.mem_append_left _ hp)]; simp
  omega
/-- There is no entry of inode 0. -/
theorem count_zero (l : List (ByteArray × ByteArray)) : l.countP (entB 0) = 0 := List.countP_eq_zero.2 fun p hp => by
  unfold entB
  cases h : rdOk p.1
  · simp
  · obtain ⟨_, hk, _⟩ := key_of_rd h
    have := (plOk_cases hk).1
    simp [this]
theorem mst_nil : ∀ (ns acc : List ByteArray), ns.foldl mstep (acc, []) = (acc ++ ns, [])
  | [], acc => by simp
  | x :: ns, acc => by
    have h : mstep (acc, []) x = (acc ++ [x], []) := by simp [mstep, cutN, fnB, fnN, setN]
    rw [List.foldl_cons, h, mst_nil ns]
    simp
theorem mrg_none (ns : List ByteArray) : mrgS ns [] = ns := by
  unfold mrgS mst
  rw [mst_nil]
  simp [setN]

open Go.RowKit Go.Shelf
set_option maxRecDepth 100000

def nmCount (l : List (ByteArray × ByteArray)) (ino : Int) : Nat := if ino = 0 then 1 else l.countP (entB ino)
theorem SeqOwn.up {α : Type} {n : Nat} {P : Program} {g : Nat} {lb : Array Value} {encs : α → Array Value} {TT : Keep} {n₀ : Nat} {S Sp S' Sp' : List α → Prop} {N M : Nat} {w : World} (h : SeqOwn n P g lb encs TT n₀ S Sp N w) (hS : ∀ ys, S ys → S' ys) (hSp : ∀ ys, Sp ys → Sp' ys) (hN : N ≤ M) : SeqOwn n P g lb encs TT n₀ S' Sp' M w :=
  fun l J Jx W n₁ a b c d e f hY h0 => (h l J Jx W n₁ a b c d e f (fun pre x W1 hV hj hl => hY pre x W1 hV hj (by omega)) h0).mono fun e W' ⟨h1, h2⟩ => ⟨h1, by
    rcases h2 with ⟨xs, q1, q2⟩ | ⟨xs, q1, q2⟩
    · exact .inl ⟨xs, hS _ q1, q2⟩
    · exact .inr ⟨xs, hSp _ q1, q2⟩⟩

/-- What Names tells of a view without a change. -/
def NamesN (xv : List Nat) (l : List (ByteArray × ByteArray)) (ino : Int) (e : Ending) (w' : World) : Prop :=
  ∃ (α : Type) (encs : α → Array Value) (gf : Nat) (lb : Array Value), e = .returned (.func (.func gf) #[] lb) ∧ (∀ args w, (callFunc gf args).run Tryz.prog w = .ok (.enter gf args) w) ∧ (∀ x, (encs x).size = 2) ∧
    (∀ m, SeqOwn m Tryz.prog gf lb encs (TV xv) w'.heap.size (fun ys => ys.length = nmCount l ino) (fun _ => True) 301 w')

theorem names_count (xv : List Nat) {B : Nat} {w0 w : World} {v g p b : Nat} {s : Dl} {a : Option Addr} {n cap : Nat} {l : List (ByteArray × ByteArray)} (hv : VwAt w v g p) (hd : DlN B w0 w p b s) (hS : SoAt w g a n cap l) (hN : s.L = []) (hr : RisK l) (h3 : l.length ≤ 300) (ino : Int) (h0 : 0 ≤ ino) (h1 : ino ≤ 4294967295) (hxl : ∀ x ∈ xv, x < w.heap.size) (hxg : g ∉ xv) (hxa : ∀ ad, 0 < n → a = some ad → ad.block ∉ xv) :
    Calls Tryz.prog 17 #[.pointer (some ⟨v, 0, none⟩), .int .u32 ino] w fun e w' => NamesN xv l ino e w' ∧ Below w.heap.size w w' := by
  by_cases hz : ino = 0
  · subst hz
    refine (vnames_zero w v).mono ?_
    rintro e w' ⟨B1, rfl, hc, hlt, hb⟩
    exact ⟨⟨Unit, erE 30, _, _, rfl, enters_of Tryz.func42 (by kernel_rfl) rfl, fun _ => rfl, fun m => (nerr_own xv m B1 30 _ w' hlt hc 301 (by decide)).up (fun ys e => by rw [e]; rfl) (fun _ _ => trivial) (Nat.le_refl _)⟩, hb⟩
  · refine (vnames_any xv hv hd hS (by rw [hN]; exact Nat.zero_le _) (fun c hc => by rw [hN] at hc; cases hc) ino (by omega) h1 hxl hxg hxa).mono ?_
    rintro e w' ⟨lb, rfl, hq, hb⟩
    have hk : kept ino s.L = [] := by rw [hN]; rfl
    refine ⟨⟨ByteArray, nmE, _, lb, rfl, enters_of Tryz.func72 (by kernel_rfl) rfl, fun _ => rfl, fun m => (hq m).up (fun ys e => ?_) (fun _ _ => trivial) (by rw [hN]; simp; omega)⟩, hb⟩
    rw [e]
    unfold namesV nmCount
    rw [hk, mrg_none, if_neg hz, names_none l hr ino (by omega) h1]

theorem vg_new (l : List (ByteArray × ByteArray)) (m : Int) (q : Pl) : vgR l (newS m) q = (stI l q, stB l q, stE l q) := by
  unfold vgR
  rw [show isX (newS m) q = false from rfl]
  rfl
theorem stI_dec {l : List (ByteArray × ByteArray)} {q : Pl} (h : plOk q = true) (hf : fdB l (keyS q) = true) : stI l q = decI q.part (valS l (keyS q)) ∧ stE l q = decE q.part (valS l (keyS q)) ∧ stB l q = decide (decE q.part (valS l (keyS q)) = 0) := by
  have e1 : stB l q = decide (decE q.part (valS l (keyS q)) = 0) := by unfold stB; rw [h, hf]; rfl
  refine ⟨?_, by unfold stE; rw [h, hf]; rfl, e1⟩
  unfold stI
  rw [e1]
  by_cases h0 : decE q.part (valS l (keyS q)) = 0
  · rw [decide_eq_true h0]; rfl
  · rw [decide_eq_false h0]
    unfold decI
    rw [if_neg h0]
    rfl
theorem st_none {l : List (ByteArray × ByteArray)} {q : Pl} (h : plOk q = true) (hf : fdB l (keyS q) = false) : stI l q = it0 ∧ stE l q = 0 ∧ stB l q = false := by
  have e1 : stB l q = false := by unfold stB; rw [h, hf]; rfl
  refine ⟨?_, by unfold stE; rw [h, hf]; rfl, e1⟩
  unfold stI
  rw [e1]
  rfl
theorem st_bad {l : List (ByteArray × ByteArray)} {q : Pl} (h : plOk q = false) : stE l q = 30 := by unfold stE; rw [h]; rfl

end Go.Proofs.YtjlglnhmkheidaaGreat
