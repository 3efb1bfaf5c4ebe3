/- Paths in plain words: cut at each stroke, joined, and back; which stand below which. -/
import Derived.Test.YtfnoppnmilmglaaPName
namespace Go.Proofs.Ytfnoppnmilmglaa
open Go.RowKit
set_option linter.unusedVariables false
set_option linter.unusedSimpArgs false
set_option maxRecDepth 4000

def ofL (l : List UInt8) : ByteArray := ⟨l.toArray⟩
theorem ofL_list (s : ByteArray) : ofL s.data.toList = s := by obtain ⟨d⟩ := s; rfl
theorem ofL_data (l : List UInt8) : (ofL l).data.toList = l := rfl
theorem ofL_size (l : List UInt8) : (ofL l).size = l.length := rfl
theorem size_list (s : ByteArray) : s.size = s.data.toList.length := by rw [Array.length_toList]; rfl
theorem ofL_inj {a b : List UInt8} (h : ofL a = ofL b) : a = b := by
  have := congrArg (fun s : ByteArray => s.data.toList) h
  exact this

/-- The pieces between strokes. -/
def cutB : List UInt8 → List (List UInt8)
  | [] => [[]]
  | c :: r => if c = 47 then [] :: cutB r else match cutB r with
    | [] => [[c]]
    | h :: t => (c :: h) :: t
theorem cutB_ne (l : List UInt8) : cutB l ≠ [] := by
  cases l with
  | nil => simp [cutB]
  | cons c r => unfold cutB; split; simp; split <;> simp
/-- Each piece with a stroke ahead of it. -/
def glue (l : List (List UInt8)) : List UInt8 := l.flatMap (fun n => 47 :: n)
theorem glue_cut : ∀ l : List UInt8, glue (cutB l) = 47 :: l
  | [] => rfl
  | c :: r => by
    have ih := glue_cut r
    unfold cutB
    split
    · rename_i h
      show 47 :: glue (cutB r) = _
      rw [ih, h]
    · split
      · rename_i h; exact absurd h (cutB_ne r)
      · rename_i x h t e
        rw [e] at ih
        have : 47 :: (h ++ glue t) = 47 :: r := ih
        have e2 : h ++ glue t = r := by simpa using this
        show 47 :: (c :: h ++ glue t) = _
        rw [← e2]; rfl
theorem cut_plain : ∀ {n : List UInt8}, 47 ∉ n → cutB n = [n]
  | [], _ => rfl
  | c :: r, h => by
    have hc : c ≠ 47 := fun e => h (by simp [e])
    have hr : 47 ∉ r := fun e => h (by simp [e])
    unfold cutB
    rw [if_neg hc, cut_plain hr]
theorem cut_app : ∀ {n : List UInt8}, 47 ∉ n → ∀ m, cutB (n ++ 47 :: m) = n :: cutB m
  | [], _, m => by
    show cutB (47 :: m) = _
    rw [cutB, if_pos rfl]
  | c :: r, h, m => by
    have hc : c ≠ 47 := fun e => h (by simp [e])
    have hr : 47 ∉ r := fun e => h (by simp [e])
    show cutB (c :: (r ++ 47 :: m)) = _
    rw [cutB, if_neg hc, cut_app hr]
theorem cut_glue : ∀ {l : List (List UInt8)}, l ≠ [] → (∀ n ∈ l, 47 ∉ n) → cutB ((glue l).drop 1) = l
  | [n], _, h => by
    have : glue [n] = 47 :: n := by simp [glue]
    rw [this]
    exact cut_plain (h n (by simp))
  | n :: m :: l, _, h => by
    have e : (glue (n :: m :: l)).drop 1 = n ++ 47 :: (glue (m :: l)).drop 1 := by simp [glue]
    rw [e, cut_app (h n (by simp)), cut_glue (by simp) (fun x hx => h x (by simp [hx]))]

/-! ### A path -/
def pathN (s : ByteArray) : List ByteArray := (cutB (s.data.toList.drop 1)).map ofL
/-- Whether a text begins as a path does, and is no longer than one. -/
def headOk (s : ByteArray) : Bool := decide (2 ≤ s.size) && decide (s.size ≤ 64) && (s.data.toList.head? == some 47)
def pathE (s : ByteArray) : Int := if s.data.toList = [47] then 0 else if headOk s = true then (if (pathN s).length ≤ 6 then (if (pathN s).all nameOk = true then 0 else 160) else 160) else 160
def pathL (s : ByteArray) : List ByteArray := if pathE s = 0 then (if s.data.toList = [47] then [] else pathN s) else []
def joinE (ns : List ByteArray) : Int := if ns.length ≤ 6 then (if ns.all nameOk = true then 0 else 160) else 160
def gluS (ns : List ByteArray) : ByteArray := ofL (glue (ns.map (fun n => n.data.toList)))
def joinS (ns : List ByteArray) : ByteArray := if joinE ns = 0 then (if ns = [] then ofL [47] else gluS ns) else ⟨#[]⟩
def parE (s : ByteArray) : Int := if pathE s = 0 ∧ pathL s ≠ [] then 0 else 160
def parL (s : ByteArray) : List ByteArray := if parE s = 0 then (pathL s).dropLast else []
def parN (s : ByteArray) : ByteArray := if parE s = 0 then (pathL s).getLast?.getD ⟨#[]⟩ else ⟨#[]⟩

theorem pathE_or (s : ByteArray) : pathE s = 0 ∨ pathE s = 160 := by
  unfold pathE
  split
  · exact .inl rfl
  · split
    · split
      · split
        · exact .inl rfl
        · exact .inr rfl
      · exact .inr rfl
    · exact .inr rfl
theorem joinE_or (ns : List ByteArray) : joinE ns = 0 ∨ joinE ns = 160 := by
  unfold joinE
  split
  · split
    · exact .inl rfl
    · exact .inr rfl
  · exact .inr rfl
theorem path_all {s : ByteArray} (h : pathE s = 0) : (pathL s).length ≤ 6 ∧ (pathL s).all nameOk = true := by
  unfold pathL
  rw [if_pos h]
  split
  · exact ⟨by simp, rfl⟩
  · rename_i h1
    unfold pathE at h
    rw [if_neg h1] at h
    split at h
    · split at h
      · split at h
        · exact ⟨‹_›, ‹_›⟩
        · cases h
      · cases h
    · cases h
theorem map_of (l : List (List UInt8)) : (l.map ofL).map (fun n => n.data.toList) = l := by
  rw [List.map_map]
  have : ((fun n : ByteArray => n.data.toList) ∘ ofL) = id := rfl
  rw [this, List.map_id]
theorem map_to (ns : List ByteArray) : (ns.map (fun n => n.data.toList)).map ofL = ns := by
  rw [List.map_map]
  have : (ofL ∘ (fun n : ByteArray => n.data.toList)) = id := funext ofL_list
  rw [this, List.map_id]

/-- What was split is joined as what it was. -/
theorem join_split {s : ByteArray} (h : pathE s = 0) : joinE (pathL s) = 0 ∧ joinS (pathL s) = s := by
  obtain ⟨h1, h2⟩ := path_all h
  have hj : joinE (pathL s) = 0 := by unfold joinE; rw [if_pos h1, if_pos h2]
  refine ⟨hj, ?_⟩
  unfold joinS
  rw [if_pos hj]
  unfold pathL
  rw [if_pos h]
  by_cases h47 : s.data.toList = [47]
  · rw [if_pos h47, if_pos rfl, ← h47, ofL_list]
  · rw [if_neg h47]
    have hne : pathN s ≠ [] := by
      unfold pathN
      intro e
      exact cutB_ne _ (List.map_eq_nil_iff.1 e)
    rw [if_neg hne]
    have hh : headOk s = true := by
      unfold pathE at h
      rw [if_neg h47] at h
      split at h
      · assumption
      · cases h
    unfold headOk at hh
    simp only [Bool.and_eq_true, beq_iff_eq] at hh
    unfold gluS pathN
    rw [map_of, glue_cut]
    have : s.data.toList = 47 :: s.data.toList.drop 1 := by
      cases hs : s.data.toList with
      | nil => rw [hs] at hh; simp at hh
      | cons c r => rw [hs] at hh; simp at hh; rw [hh.2]; rfl
    rw [← this, ofL_list]

theorem nameOk_no47 {n : ByteArray} (h : nameOk n = true) : 47 ∉ n.data.toList := by
  unfold nameOk at h
  simp only [Bool.and_eq_true, Bool.not_eq_true'] at h
  have := h.2
  intro e
  rw [List.contains_iff_mem.2 e] at this
  cases this
theorem nameOk_size {n : ByteArray} (h : nameOk n = true) : 1 ≤ n.data.toList.length ∧ n.data.toList.length ≤ 8 := by
  unfold nameOk at h
  simp only [Bool.and_eq_true, decide_eq_true_eq] at h
  rw [size_list] at h
  exact ⟨h.1.1.1.1.1, h.1.1.1.1.2⟩
theorem glue_len : ∀ {l : List (List UInt8)}, (∀ n ∈ l, 1 ≤ n.length ∧ n.length ≤ 8) → 2 * l.length ≤ (glue l).length ∧ (glue l).length ≤ 9 * l.length
  | [], _ => by simp [glue]
  | n :: l, h => by
    have ih := glue_len (l := l) (fun x hx => h x (by simp [hx]))
    have hn := h n (by simp)
    have e : (glue (n :: l)).length = n.length + 1 + (glue l).length := by
      show (47 :: n ++ glue l).length = _
      rw [List.length_append, List.length_cons]
    rw [e, List.length_cons]
    omega

/-- What was joined is split as what it was. -/
theorem split_join {ns : List ByteArray} (h : joinE ns = 0) : pathE (joinS ns) = 0 ∧ pathL (joinS ns) = ns := by
  have hh : ns.length ≤ 6 ∧ ns.all nameOk = true := by
    unfold joinE at h
    split at h
    · split at h
      · exact ⟨‹_›, ‹_›⟩
      · cases h
    · cases h
  have hall := List.all_eq_true.1 hh.2
  by_cases he : ns = []
  · subst he
    have e : joinS [] = ofL [47] := by unfold joinS; rw [if_pos h, if_pos rfl]
    have e0 : pathE (ofL [47]) = 0 := by unfold pathE; rw [if_pos (ofL_data [47])]
    rw [e]
    refine ⟨e0, ?_⟩
    unfold pathL
    rw [if_pos e0, if_pos (ofL_data [47])]
  · have e : joinS ns = gluS ns := by unfold joinS; rw [if_pos h, if_neg he]
    have hl : ∀ n ∈ ns.map (fun n => n.data.toList), 1 ≤ n.length ∧ n.length ≤ 8 := fun n hn => by
      obtain ⟨m, hm, rfl⟩ := List.mem_map.1 hn
      exact nameOk_size (hall m hm)
    have hlen := glue_len hl
    rw [List.length_map] at hlen
    have hpos : 0 < ns.length := List.length_pos_iff.2 he
    have hgd : (gluS ns).data.toList = glue (ns.map (fun n => n.data.toList)) := rfl
    have hcut : pathN (gluS ns) = ns := by
      unfold pathN
      rw [hgd, cut_glue (by simpa using he) (fun n hn => by
        obtain ⟨m, hm, rfl⟩ := List.mem_map.1 hn
        exact nameOk_no47 (hall m hm)), map_to]
    have h47 : (gluS ns).data.toList ≠ [47] := fun e => by
      have := congrArg List.length e
      rw [hgd] at this
      simp at this
      omega
    have hhd : headOk (gluS ns) = true := by
      unfold headOk
      rw [size_list, hgd]
      have h1 : (glue (ns.map (fun n => n.data.toList))).head? = some 47 := by
        cases ns with
        | nil => exact absurd rfl he
        | cons n r => rfl
      rw [h1, decide_eq_true (by omega), decide_eq_true (by omega)]
      rfl
    have hE : pathE (gluS ns) = 0 := by
      unfold pathE
      rw [if_neg h47, if_pos hhd, hcut, if_pos hh.1, if_pos hh.2]
    rw [e]
    refine ⟨hE, ?_⟩
    unfold pathL
    rw [if_pos hE, if_neg h47, hcut]

/-- A path is its parent's names, and its last one. -/
theorem par_split {s : ByteArray} (h : parE s = 0) : pathE s = 0 ∧ parL s ++ [parN s] = pathL s := by
  have hp : pathE s = 0 ∧ pathL s ≠ [] := by
    unfold parE at h
    split at h
    · assumption
    · cases h
  refine ⟨hp.1, ?_⟩
  unfold parL parN
  rw [if_pos h, if_pos h]
  have := List.dropLast_concat_getLast hp.2
  rw [List.getLast?_eq_some_getLast hp.2]
  exact this

/-! ### Below -/
def sameP : List ByteArray → List ByteArray → Bool
  | [], _ => true
  | x :: a, y :: b => (x.toList == y.toList) && sameP a b
  | _ :: _, [] => false
theorem sameP_iff : ∀ {a b : List ByteArray}, sameP a b = true ↔ a <+: b
  | [], b => ⟨fun _ => List.nil_prefix, fun _ => rfl⟩
  | x :: a, [] => ⟨(fun h => by cases h), (fun h => by simp at h)⟩
  | x :: a, y :: b => by
    unfold sameP
    rw [Bool.and_eq_true, beq_iff_eq, sameP_iff, List.cons_prefix_cons]
    exact ⟨fun h => ⟨toList_inj h.1, h.2⟩, fun h => ⟨by rw [h.1], h.2⟩⟩
/-- Whether b begins with all of a, and has more. -/
def underB (a b : List ByteArray) : Bool := decide (a.length < b.length) && sameP a b
theorem under_self (a : List ByteArray) : underB a a = false := by unfold underB; rw [decide_eq_false (Nat.lt_irrefl _)]; rfl
theorem under_asym {a b : List ByteArray} (h : underB a b = true) : underB b a = false := by
  unfold underB at *
  rw [Bool.and_eq_true, decide_eq_true_eq] at h
  rw [decide_eq_false (by omega)]; rfl
theorem under_trans {a b c : List ByteArray} (h : underB a b = true) (k : underB b c = true) : underB a c = true := by
  unfold underB at *
  rw [Bool.and_eq_true, decide_eq_true_eq, sameP_iff] at *
  exact ⟨by omega, h.2.trans k.2⟩
theorem under_snoc (a : List ByteArray) (x : ByteArray) : underB a (a ++ [x]) = true := by
  unfold underB
  rw [Bool.and_eq_true, decide_eq_true_eq, sameP_iff]
  exact ⟨by simp, List.prefix_append _ _⟩
/-- Whether two lists are one. -/
def sameL (a b : List ByteArray) : Bool := decide (a.length = b.length) && sameP a b
theorem sameL_iff {a b : List ByteArray} : sameL a b = true ↔ a = b := by
  unfold sameL
  rw [Bool.and_eq_true, decide_eq_true_eq, sameP_iff]
  exact ⟨fun h => h.2.eq_of_length h.1, fun h => by subst h; exact ⟨rfl, List.prefix_refl _⟩⟩

end Go.Proofs.Ytfnoppnmilmglaa
