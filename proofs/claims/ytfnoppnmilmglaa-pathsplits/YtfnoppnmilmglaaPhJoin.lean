/- The contract of the document's Join. -/
import Derived.Test.YtfnoppnmilmglaaPhRow
namespace Go.Proofs.Ytfnoppnmilmglaa
open Go.RowKit
set_option linter.unusedVariables false
set_option linter.unusedSimpArgs false
set_option maxRecDepth 100000

theorem gluS_next {ns : List ByteArray} {i : Nat} {x : ByteArray} (h : ns[i]? = some x) : gluS (ns.take (i + 1)) = gluS (ns.take i) ++ ((⟨#[47]⟩ : ByteArray) ++ x) := by
  rw [take_next h]
  unfold gluS glue
  rw [List.map_append, List.flatMap_append]
  obtain ⟨d⟩ := x
  apply congrArg ByteArray.mk
  apply Array.ext'
  simp [ofL]
theorem gluS_nil : gluS [] = ⟨#[]⟩ := rfl
theorem gluS_empty {ns : List ByteArray} : (gluS ns).toList.isEmpty = decide (ns = []) := by
  cases ns with
  | nil => rw [decide_eq_true rfl, ByteArray.toList_eq]; rfl
  | cons x r =>
    rw [decide_eq_false (by simp), ByteArray.toList_eq]
    rfl
theorem all_next {ns : List ByteArray} {i : Nat} {x : ByteArray} (h : ns[i]? = some x) (hx : nameOk x = true) (hp : (ns.take i).all nameOk = true) : (ns.take (i + 1)).all nameOk = true := by
  rw [take_next h, List.all_append, hp]; simp [hx]
theorem gluS_le {ns : List ByteArray} (h : ns.all nameOk = true) : (gluS ns).size ≤ 9 * ns.length := by
  have := (glue_len (l := ns.map (fun n => n.data.toList)) (fun n hn => by
    obtain ⟨m, hm, rfl⟩ := List.mem_map.1 hn
    exact nameOk_size (List.all_eq_true.1 h m hm))).2
  rw [List.length_map] at this
  exact this

set_option maxHeartbeats 4000000 in
theorem rjoin_any {w : World} (a : Option Addr) (n c : Nat) (l : List ByteArray) (hl : RdZ 1 strE w (.slice a n c) l) (hs : ∀ x ∈ l, x.size ≤ maxLen) :
    Calls Try.prog 15 #[.slice a n c] w fun e w' => e = .returned (.tuple #[.string (joinS l), .int .i64 (joinE l)]) ∧ w = w' := by
  obtain ⟨h1, _, _⟩ := hl.len
  have HL : Hid (RdZ 1 strE w (.slice a n c) l ∧ l.length = n ∧ ∀ x ∈ l, x.size ≤ maxLen) := ⟨hl, h1, hs⟩
  obtain ⟨S, hS⟩ : ∃ S, joinS l = S := ⟨_, rfl⟩
  obtain ⟨E, hE⟩ : ∃ E, joinE l = E := ⟨_, rfl⟩
  rw [hS, hE]
  have HR : Hid (joinS l = S ∧ joinE l = E) := ⟨hS, hE⟩
  clear hl h1 hs hS hE
  by_cases hbig : n > 6
  · have hb : (n : Int) > 6 := by omega
    have hEE : E = 160 := by rw [← HR.out.2, joinE, if_neg (by have := HL.out; omega)]
    have hSS : S = ⟨#[]⟩ := by rw [← HR.out.1, joinS, if_neg (by rw [HR.out.2, hEE]; decide)]
    subst hEE hSS
    go_enter Try.func15, Try.ntmps15
    go_wp2
    go_ret2
    exact ⟨rfl, rfl⟩
  have hb : ¬ (n : Int) > 6 := by omega
  have hn6 : n ≤ 6 := by omega
  clear hbig
  go_enter Try.func15, Try.ntmps15
  go_wp2
  go_loopg [4, 12] n (fun kx s4 s12 wr => ∃ (i : Nat) (t : ByteArray), s12 = .int .i64 i ∧ s4 = .string t ∧ i ≤ n ∧ n - i ≤ kx ∧ Hid (w = wr ∧ t = gluS (l.take i) ∧ (l.take i).all nameOk = true))
  case atStart => exact ⟨0, ⟨#[]⟩, rfl, rfl, Nat.zero_le _, by omega, rfl, rfl, rfl⟩
  case round =>
    obtain ⟨i, t, rfl, rfl, hin, hkx, HQ⟩ := hrel
    have hwr : w = wr := HQ.out.1
    subst hwr
    by_cases hlt : i < n
    · obtain ⟨x, hx⟩ : ∃ x, l[i]? = some x := ⟨_, List.getElem?_eq_getElem (by have := HL.out; omega)⟩
      have HX : Hid (l[i]? = some x) := hx
      obtain ⟨b0, o0, rfl, d0⟩ := s_cell HL.out.1 hx
      have hiI : (i : Int) < (n : Int) := by omega
      have hib : (i : Int) + 1 ≤ 1001 := by omega
      have hck := refName_any w x (HL.out.2.2 x (List.mem_of_getElem? hx))
      clear hx
      cases hq : nameOk x with
      | false =>
        rw [nameE_30 hq] at hck
        have hEE : E = 160 := by
          rw [← HR.out.2, joinE, if_pos (by have := HL.out; omega), if_neg (by
            intro e
            have := List.all_eq_true.1 e x (List.mem_of_getElem? HX.out)
            rw [hq] at this; cases this)]
        have hSS : S = ⟨#[]⟩ := by rw [← HR.out.1, joinS, if_neg (by rw [HR.out.2, hEE]; decide)]
        subst hEE hSS
        go_wp2_with fail
        refine hck.mono ?_
        rintro e w6 ⟨rfl, rfl⟩
        go_wp2
        go_ret2
        exact ⟨rfl, rfl⟩
      | true =>
        rw [nameE_0 hq] at hck
        have HT : Hid (t = gluS (l.take i) ∧ (l.take i).all nameOk = true) := HQ.out.2
        have hts : t.size ≤ 54 := by
          have h0 := gluS_le HT.out.2
          rw [← HT.out.1, List.length_take] at h0
          omega
        have hxs : x.size ≤ 8 := by have := (nameOk_size hq).2; rw [← size_list] at this; exact this
        go_wp2_with fail
        refine hck.mono ?_
        rintro e w6 ⟨rfl, rfl⟩
        clear hck
        go_wp2
        go_roundg (n - (i + 1))
        case measure => omega
        case rel =>
          refine ⟨i + 1, _, by rw [show ((i : Int) + 1) = ((i + 1 : Nat) : Int) by omega], rfl, by omega, by omega, rfl, ?_, all_next HX.out hq HT.out.2⟩
          rw [gluS_next HX.out, ← HT.out.1]
    · obtain rfl : n = i := by omega
      have hall : t = gluS l ∧ l.all nameOk = true := by
        have h0 := HQ.out.2
        rw [List.take_of_length_le (by have := HL.out; omega)] at h0
        exact h0
      have hEE : E = 0 := by rw [← HR.out.2, joinE, if_pos (by have := HL.out; omega), if_pos hall.2]
      have hte : t.toList.isEmpty = decide (l = []) := by rw [hall.1]; exact gluS_empty
      by_cases hnil : l = []
      · rw [decide_eq_true hnil] at hte
        have hSS : S = ⟨#[47]⟩ := by rw [← HR.out.1, joinS, if_pos (by rw [HR.out.2, hEE]), if_pos hnil]; rfl
        subst hEE hSS
        clear hall HQ
        go_wp2
        go_ret2
        exact ⟨rfl, rfl⟩
      · rw [decide_eq_false hnil] at hte
        have hSS : S = t := by rw [← HR.out.1, joinS, if_pos (by rw [HR.out.2, hEE]), if_neg hnil, hall.1]
        subst hEE hSS
        clear hall HQ
        go_wp2
        go_ret2
        exact ⟨rfl, rfl⟩

end Go.Proofs.Ytfnoppnmilmglaa
