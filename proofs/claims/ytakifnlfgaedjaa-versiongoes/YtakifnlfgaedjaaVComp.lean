/- The contracts of slices.Compact at sorted numbers of 32 bits, and of version's Kept. -/
import Derived.Test.YtakifnlfgaedjaaVKept
namespace Go.Proofs.Ytakifnlfgaedjaa
open Go.RowKit Go.Sort
set_option linter.unusedVariables false
set_option linter.unusedSimpArgs false
set_option maxRecDepth 4000

/-- Each once, rising. -/
structure CompOk (d d' : Array Int) : Prop where
  rise : ∀ i j, i < j → j < d'.size → d'[i]! < d'[j]!
  mem : ∀ v, (∃ i, i < d'.size ∧ d'[i]! = v) ↔ (∃ i, i < d.size ∧ d[i]! = v)

/-- What Compact's second loop keeps: so many (m) are read, so many (k) are written. -/
structure CInv (m k : Nat) (d dk : Array Int) : Prop where
  sz : dk.size = d.size
  k1 : 1 ≤ k
  km : k ≤ m - 1
  mn : m ≤ d.size
  same : ∀ t, k ≤ t → t < d.size → dk[t]! = d[t]!
  rise : ∀ i j, i < j → j < k → dk[i]! < dk[j]!
  mem : ∀ v, (∃ i, i < k ∧ dk[i]! = v) ↔ (∃ i, i < m ∧ d[i]! = v)
  last : dk[k - 1]! = d[m - 1]!

theorem set_get (d : Array Int) (k : Nat) (x : Int) (hk : k < d.size) (t : Nat) : (d.setIfInBounds k x)[t]! = if t = k then x else d[t]! := by
  by_cases e : t = k
  · subst e
    rw [if_pos rfl, getElem!_pos _ t (by simpa using hk)]
    simp
  · rw [if_neg e]
    by_cases ht : t < d.size
    · rw [getElem!_pos d t ht, getElem!_pos _ t (by simpa using ht), Array.getElem_setIfInBounds_ne ht (by omega)]
    · rw [getElem!_neg d t ht, getElem!_neg _ t (by simpa using ht)]

theorem CInv.skip {m k : Nat} {d dk : Array Int} (h : CInv m k d dk) (hm : m < d.size) (e : d[m]! = d[m - 1]!) : CInv (m + 1) k d dk := by
  have := h.k1
  have := h.km
  refine ⟨h.sz, h.k1, by omega, by omega, h.same, h.rise, fun v => ?_, by rw [h.last, Nat.add_sub_cancel]; exact e.symm⟩
  rw [h.mem v]
  constructor
  · rintro ⟨i, h1, h2⟩; exact ⟨i, by omega, h2⟩
  · rintro ⟨i, h1, h2⟩
    by_cases q : i = m
    · exact ⟨m - 1, by omega, by rw [← e, ← q]; exact h2⟩
    · exact ⟨i, by omega, h2⟩
theorem CInv.take {m k : Nat} {d dk : Array Int} (h : CInv m k d dk) (hm : m < d.size) (e : d[m - 1]! < d[m]!) : CInv (m + 1) (k + 1) d (dk.setIfInBounds k d[m]!) := by
  have h1 := h.k1
  have h2 := h.km
  have hk : k < dk.size := by rw [h.sz]; omega
  have lst : ∀ i, i < k → dk[i]! ≤ d[m - 1]! := fun i hi => by
    rw [← h.last]
    by_cases q : i = k - 1
    · rw [q]; exact Int.le_refl _
    · exact Int.le_of_lt (h.rise i (k - 1) (by omega) (by omega))
  refine ⟨by simp [h.sz], by omega, by omega, by omega, fun t q1 q2 => ?_, fun i j q1 q2 => ?_, fun v => ?_, ?_⟩
  · rw [set_get dk k _ hk, if_neg (by omega)]; exact h.same t (by omega) q2
  · rw [set_get dk k _ hk, set_get dk k _ hk, if_neg (by omega)]
    split
    · have := lst i (by omega); omega
    · exact h.rise i j q1 (by omega)
  · constructor
    · rintro ⟨i, q1, q2⟩
      rw [set_get dk k _ hk] at q2
      split at q2
      · exact ⟨m, by omega, q2⟩
      · obtain ⟨j, r1, r2⟩ := (h.mem v).1 ⟨i, by omega, q2⟩
        exact ⟨j, by omega, r2⟩
    · rintro ⟨i, q1, q2⟩
      by_cases q : i = m
      · exact ⟨k, by omega, by rw [set_get dk k _ hk, if_pos rfl, ← q]; exact q2⟩
      · obtain ⟨j, r1, r2⟩ := (h.mem v).2 ⟨i, by omega, q2⟩
        exact ⟨j, by omega, by rw [set_get dk k _ hk, if_neg (by omega)]; exact r2⟩
  · rw [Nat.add_sub_cancel, set_get dk k _ hk, if_pos rfl, Nat.add_sub_cancel]
theorem CInv.start {k : Nat} {d : Array Int} (hk : 1 ≤ k) (hn : k < d.size) (hr : ∀ i j, i < j → j < k → d[i]! < d[j]!) (e : d[k]! = d[k - 1]!) : CInv (k + 1) k d d := by
  refine ⟨rfl, hk, by omega, by omega, fun _ _ _ => rfl, hr, fun v => ?_, by rw [Nat.add_sub_cancel]; exact e.symm⟩
  constructor
  · rintro ⟨i, q1, q2⟩; exact ⟨i, by omega, q2⟩
  · rintro ⟨i, q1, q2⟩
    by_cases q : i = k
    · exact ⟨k - 1, by omega, by rw [← e, ← q]; exact q2⟩
    · exact ⟨i, by omega, q2⟩
theorem CInv.done {k : Nat} {d dk : Array Int} (h : CInv d.size k d dk) : CompOk d (dk.extract 0 k) := by
  have h1 := h.k1
  have h2 := h.km
  have hsz : (dk.extract 0 k).size = k := by rw [Array.size_extract, h.sz]; omega
  have hg : ∀ i, i < k → (dk.extract 0 k)[i]! = dk[i]! := fun i hi => by
    have : i < dk.size := by rw [h.sz]; omega
    rw [getElem!_pos _ i (by omega), getElem!_pos dk i this]
    simp
  refine ⟨fun i j q1 q2 => ?_, fun v => ?_⟩
  · rw [hsz] at q2
    rw [hg i (by omega), hg j q2]
    exact h.rise i j q1 q2
  · rw [hsz, ← h.mem v]
    constructor
    · rintro ⟨i, q1, q2⟩; exact ⟨i, q1, by rw [← hg i q1]; exact q2⟩
    · rintro ⟨i, q1, q2⟩; exact ⟨i, q1, by rw [hg i q1]; exact q2⟩
theorem HoldU.cut {w : World} {g : Nat} {d : Array Int} (h : HoldU w g d) (k : Nat) (hk : k ≤ d.size) : HoldU w g (d.extract 0 k) := by
  obtain ⟨cur, h1, h2⟩ := h
  refine ⟨cur, h1, fun i hi => ?_⟩
  have hi' : i < k := by rw [Array.size_extract] at hi; omega
  rw [h2 i (by omega), getElem!_pos d i (by omega), getElem!_pos (d.extract 0 k) i hi]
  simp

set_option maxHeartbeats 4000000 in
theorem compact_any {w : World} {g : Nat} {d : Array Int} (h : HoldU w g d) (n cap : Nat) (hn : n = d.size) (hn1 : 1 ≤ n) (hsort : ∀ i j, i < j → j < n → d[i]! ≤ d[j]!) (hc : n ≤ cap) (hcm : cap ≤ maxLen) (hsz : n ≤ 100000) :
    Calls Try.prog 34 #[.slice (some ⟨g, 0, none⟩) n cap] w fun e w' => ∃ d' : Array Int, e = .returned (.slice (some ⟨g, 0, none⟩) d'.size cap) ∧ 1 ≤ d'.size ∧ d'.size ≤ n ∧ HoldU w' g d' ∧ CompOk d d' ∧ Sole [g] w w' := by
  have H : Hid (HoldU w g d) := h
  have HN : Hid (n = d.size) := hn
  have HSO : Hid (∀ i j, i < j → j < n → d[i]! ≤ d[j]!) := hsort
  unfold maxLen at hcm
  obtain ⟨iU, hiU, hy0, hy1, hy2⟩ := info_parts Try.infoU
  have hzv : ∀ w, (zeroValue 22).run Try.prog w = .ok (Value.int .u32 0) w := by intro w; simp [zeroValue, typeInfo, hiU, hy0]
  have HZV : Hid _ := hzv
  clear h hn hsort hzv
  by_cases hn2 : n < 2
  · have hn2I : (n : Int) < 2 := by omega
    have HR : Hid (CompOk d d) := ⟨fun i j q1 q2 => by have := HN.out; omega, fun v => Iff.rfl⟩
    go_enter Try.func34, Try.ntmps34
    go_wp2
    go_ret
    exact ⟨d, by rw [← HN.out]; rfl, by rw [← HN.out]; exact hn1, by rw [← HN.out]; exact Nat.le_refl _, H.out, HR.out, Sole.refl _ _⟩
  · have hn2I : ¬ (n : Int) < 2 := by omega
    go_enter Try.func34, Try.ntmps34
    go_wp2
    go_loopw [3] (fun t wr => ∃ k : Nat, t = .int .i64 k ∧ 1 ≤ k ∧ k ≤ n ∧ Hid (∀ i j, i < j → j < k → d[i]! < d[j]!) ∧ Hid (HoldU wr g d) ∧ Sole [] w wr) (fun t _ => n - (intOf t).toNat)
    case atStart => exact ⟨1, rfl, Nat.le_refl _, by omega, fun i j q1 q2 => by omega, H, Sole.refl _ _⟩
    case round =>
      obtain ⟨k, rfl, hk1, hkn, HI, HW, hS⟩ := hrel
      by_cases hk : k < n
      · have hkI : (k : Int) < n := by omega
        obtain ⟨c, hc1⟩ : ∃ c, k = c + 1 := ⟨k - 1, by omega⟩
        have hc2 : (k : Int) - 1 = (c : Int) := by omega
        have hwc : IntKind.i64.wrap (c : Int) = (c : Int) := Go.IntWalk.i64_in _ (by omega)
        have ck := HW.out.cell k (by have := HN.out; omega)
        have cc := HW.out.cell c (by have := HN.out; omega)
        have hcI : (c : Int) < n := by omega
        have hcn : c < n := by omega
        have HC : Hid (k = c + 1) := hc1
        generalize hGk : d[k]! = xk at *
        generalize hGc : d[c]! = xc at *
        have HG : Hid (d[k]! = xk ∧ d[k - 1]! = xc) := by unfold Hid; rw [show k - 1 = c from by omega]; exact ⟨hGk, hGc⟩
        clear hGk hGc hc1
        by_cases hx : xk = xc
        · have HCI : Hid (CInv (k + 1) k d d) := CInv.start hk1 (by have := HN.out; omega) HI.out (by rw [HG.out.1, HG.out.2]; exact hx)
          have hxb : (xk == xc) = true := by simpa using hx
          have hxd : decide (xk = xc) = true := decide_eq_true hx
          obtain ⟨r, hr⟩ : ∃ r, n = k + r := ⟨n - k, by omega⟩
          have HRR : Hid (n = k + r) := hr
          have hr1 : n - k = r := by omega
          have hkc : ¬ cap = k := by omega
          have hkc2 : (k : Int) ≤ n := by omega
          clear hr
          subst hx
          go_wp2_with fail
          go_quiet (fail)
          have HW2 : Hid (HoldU (wr.drewN nq) g d) := HW.out.drewN nq
          have hS2 : Sole [] w (wr.drewN nq) := hS.trans (Sole.drewN _ _ _)
          generalize wr.drewN nq = w2 at *
          clear ck cc HW hS
          go_wp2
          go_loopw [3, 5] (fun t u wr => ∃ kk k2 : Nat, t = .int .i64 kk ∧ u = .int .i64 k2 ∧ 1 ≤ k2 ∧ k2 ≤ r ∧ Hid (∃ dk, HoldU wr g dk ∧ CInv (k + k2) kk d dk) ∧ Sole [g] w wr) (fun _ u _ => r - (intOf u).toNat)
          case atStart => exact ⟨k, 1, rfl, rfl, Nat.le_refl _, by have := HRR.out; omega, ⟨d, HW2.out, HCI.out⟩, hS2.mono (by simp)⟩
          case round =>
            obtain ⟨kk, k2, rfl, rfl, hk21, hk22, HD, hSr⟩ := hrel
            obtain ⟨w3, hw3⟩ : ∃ w3, w3 = wr := ⟨_, rfl⟩
            subst hw3
            obtain ⟨dk, g1, g2⟩ := HD.out
            have HH : Hid (HoldU w3 g dk) := g1
            have HP : Hid (CInv (k + k2) kk d dk) := g2
            have p1 := g2.k1
            have p2 := g2.km
            have p3 := g2.mn
            have p4 := g2.sz
            clear HW2 hS2 HCI HD
            by_cases hkr : k2 < r
            · have hkrI : (k2 : Int) < r := by omega
              obtain ⟨e, he⟩ : ∃ e, k2 = e + 1 := ⟨k2 - 1, by omega⟩
              have he1 : (k2 : Int) - 1 = (e : Int) := by omega
              have hwe : IntKind.i64.wrap (e : Int) = (e : Int) := Go.IntWalk.i64_in _ (by omega)
              have heI : (e : Int) < r := by omega
              have her : e < r := by omega
              have hN := HN.out
              have hR := HRR.out
              have z2 := g1.cell (k + k2) (by omega)
              have z1 := g1.cell (k + e) (by omega)
              have zk := g1.cell kk (by omega)
              have fk := g1.frozen kk
              rw [g2.same (k + k2) (by omega) (by omega)] at z2
              rw [g2.same (k + e) (by omega) (by omega)] at z1
              have hkkI : (kk : Int) < n := by omega
              have hkkn : kk < n := by omega
              have HSK : Hid (d[k + k2]! = d[k + k2 - 1]! → CInv (k + k2 + 1) kk d dk) := fun q => g2.skip (by omega) q
              have HTK : Hid (d[k + k2 - 1]! < d[k + k2]! → CInv (k + k2 + 1) (kk + 1) d (dk.setIfInBounds kk d[k + k2]!)) := fun q => g2.take (by omega) q
              have HLE : Hid (d[k + e]! ≤ d[k + k2]!) := HSO.out (k + e) (k + k2) (by omega) (by omega)
              have HEE : Hid (d[k + k2 - 1]! = d[k + e]!) := by unfold Hid; rw [show k + k2 - 1 = k + e from by omega]
              have HST : Hid (∀ x, HoldU (w3.setCell ⟨g, kk, none⟩ (.int .u32 x)) g (dk.setIfInBounds kk x)) := fun x => g1.set kk x (by omega)
              have HE : Hid (k2 = e + 1) := he
              generalize d[k + k2]! = y2 at *
              generalize d[k + e]! = y1 at *
              generalize dk[kk]! = y0 at *
              clear g1 g2 hN hR he
              by_cases hy : y2 = y1
              · have hyb : (y2 == y1) = true := by simpa using hy
                have hyd : decide (y2 = y1) = true := decide_eq_true hy
                have hyn : (y2 != y1) = false := by simp [hy]
                have HQ : Hid (CInv (k + k2 + 1) kk d dk) := HSK.out (by rw [HEE.out]; exact hy)
                subst hy
                go_wp2_with fail
                go_quiet (fail)
                go_wp2
                go_roundw
                case rel => exact ⟨kk, k2 + 1, rfl, by go_num, by omega, by omega, ⟨dk, HH.out.drewN _, HQ.out⟩, hSr.trans (Sole.drewN _ _ _)⟩
                case measure => simp [intOf]; omega
              · have hyb : (y2 == y1) = false := by simpa using hy
                have hyd : decide (y2 = y1) = false := decide_eq_false hy
                have hyn : (y2 != y1) = true := by simp [hy]
                have HQ : Hid (CInv (k + k2 + 1) (kk + 1) d (dk.setIfInBounds kk y2)) := HTK.out (by rw [HEE.out]; have := HLE.out; omega)
                clear hy
                go_wp2_with fail
                go_quiet (fail)
                go_wp2
                go_roundw
                case rel => exact ⟨kk + 1, k2 + 1, by go_num, by go_num, by omega, by omega, ⟨_, (HST.out y2).drewN nq, HQ.out⟩, (hSr.trans (Sole.setCell _ _ (by simp))).trans (Sole.drewN _ _ _)⟩
                case measure => simp [intOf]; omega
            · have hkrI : ¬ (k2 : Int) < r := by omega
              have hN := HN.out
              have hR := HRR.out
              have hkkn : kk < n := by omega
              have hkc3 : ¬ cap = kk := by omega
              have hkkI : (kk : Int) ≤ n := by omega
              obtain ⟨cur, q1, q2⟩ := g1
              have hcs : n ≤ cur.size := by
                have := (Array.getElem?_eq_some_iff.1 (q2 (n - 1) (by omega))).1
                omega
              have hzl : (Builtin.zeroCells (Value.int .u32 0).cells (n - kk)).toList.length = n - kk := by simp [Builtin.zeroCells, Value.cells]
              have hzo : ∀ u ∈ (Builtin.zeroCells (Value.int .u32 0).cells (n - kk)).toList, u.oneCell' = true := by
                intro u hu
                obtain ⟨t, ht, rfl⟩ := List.mem_iff_getElem.1 hu
                simp [Builtin.zeroCells, Value.cells, Value.oneCell', Nat.mod_one]
              obtain ⟨W2, hW2⟩ : ∃ W2, w3.setRow g (cur.toList.take kk ++ (Builtin.zeroCells (Value.int .u32 0).cells (n - kk)).toList ++ cur.toList.drop (kk + (Builtin.zeroCells (Value.int .u32 0).cells (n - kk)).toList.length)).toArray = W2 := ⟨_, rfl⟩
              have hcl : ∀ ty, (Builtin.clear_ #[49] ty #[.slice (some ⟨g, kk, none⟩) (n - kk) (cap - kk)]).run Try.prog w3 = .ok (.tuple #[]) W2 := fun ty => by
                rw [run_clear_row Try.prog w3 _ _ ty _ Try.underlying49 HZV.out g kk (n - kk) (cap - kk) cur (by omega) hzo q1 (by rw [hzl]; omega), hW2]
              have HF : Hid (HoldU W2 g (dk.extract 0 kk) ∧ (dk.extract 0 kk).size = kk ∧ CompOk d (dk.extract 0 kk) ∧ Sole [g] w W2) := by
                have hsz : (dk.extract 0 kk).size = kk := by rw [Array.size_extract]; omega
                refine ⟨?_, hsz, ?_, ?_⟩
                · refine ⟨_, by rw [← hW2]; exact setRow_heap w3 g cur _ _ _ q1, fun i hi => ?_⟩
                  rw [hsz] at hi
                  have := q2 i (by omega)
                  rw [List.append_assoc, List.getElem?_toArray, List.getElem?_append_left (by simp; omega), List.getElem?_take_of_lt hi, Array.getElem?_toList, this, getElem!_pos dk i (by omega), getElem!_pos (dk.extract 0 kk) i (by omega)]
                  simp
                · have : k + k2 = d.size := by omega
                  have hp := HP.out
                  rw [this] at hp
                  exact hp.done
                · rw [← hW2]
                  exact hSr.trans ⟨rfl, rfl, rfl, by simp, fun i _ hi => setRow_other w3 g i _ (fun e => hi (by simp [e]))⟩
              clear q1 q2 hcs hzl hzo hW2 g2 hN hR
              go_wp2
              go_ret
              obtain ⟨f1, f2, f3, f4⟩ := HF.out
              exact ⟨dk.extract 0 kk, by rw [f2]; simp, by omega, by omega, f1, f3, f4⟩
        · have hxb : (xk == xc) = false := by simpa using hx
          have hxd : decide (xk = xc) = false := decide_eq_false hx
          have HX : Hid (xc < xk) := by
            have := HSO.out c k (by have := HC.out; omega) hk
            have e := HG.out
            rw [show k - 1 = c from by have := HC.out; omega] at e
            rw [e.1, e.2] at this
            unfold Hid
            omega
          clear hx
          go_wp2_with fail
          go_quiet (fail)
          go_wp2
          go_roundw
          case rel =>
            refine ⟨k + 1, by go_num, by omega, by omega, fun i j q1 q2 => ?_, HW.out.drewN _, hS.trans (Sole.drewN _ _ _)⟩
            by_cases q : j = k
            · rw [q, HG.out.1]
              by_cases q3 : i = k - 1
              · rw [q3, HG.out.2]; exact HX.out
              · have := HI.out i (k - 1) (by omega) (by omega)
                rw [HG.out.2] at this
                have := HX.out
                omega
            · exact HI.out i j q1 (by omega)
          case measure => simp [intOf]; omega
      · have hkI : ¬ (k : Int) < n := by omega
        have HR : Hid (CompOk d d) := ⟨fun i j q1 q2 => HI.out i j q1 (by have := HN.out; omega), fun v => Iff.rfl⟩
        go_wp2
        go_ret
        exact ⟨d, by rw [← HN.out]; rfl, by rw [← HN.out]; exact hn1, by rw [← HN.out]; exact Nat.le_refl _, HW.out, HR.out, hS.mono (by simp)⟩

/-- The roots that are kept: rising, each once. -/
structure KeptOf (s : Rg) (l : List Int) : Prop where
  rise : l.Pairwise (· < ·)
  mem : ∀ v, v ∈ l ↔ v = s.t.root ∨ ∃ x ∈ s.opn, x.t.root = v

theorem own_hold {w : World} {B g n cap : Nat} {L : List Int} (h : w.ownsRow B 22 1 (.slice (some ⟨g, 0, none⟩) n cap) n (u32C L)) (hn : n = L.length) : HoldU w g L.toArray := by
  obtain ⟨h1, ⟨e, _⟩ | ⟨g', cap', cur, e, h3, h4, h5, h6, h7, h8⟩⟩ := h
  · cases e
  · simp only [Value.slice.injEq, Option.some.injEq, Addr.mk.injEq, true_and] at e
    obtain ⟨⟨rfl, _⟩, rfl⟩ := e
    refine ⟨cur, h4, fun i hi => ?_⟩
    have hi' : i < L.length := by simpa using hi
    have q := congrArg (fun l : List Value => l[i]?) h8
    simp only [Nat.mul_one] at q
    rw [List.getElem?_take_of_lt (by omega), Array.getElem?_toList] at q
    rw [q, getElem!_pos _ i hi]
    simp [u32C, List.getElem?_eq_getElem hi']

set_option maxHeartbeats 2000000 in
theorem kept_any {B : Nat} {w : World} {p : Nat} {v : Value} {s : Rg} (h : RgAt B w p v s) (hl : s.opn.length ≤ 1000) : Calls Try.prog 20 #[ptrR p] w fun e w' => ∃ (g cap : Nat) (l : List Int), e = .returned (.slice (some ⟨g, 0, none⟩) l.length cap) ∧ 1 ≤ l.length ∧ l.length ≤ 1001 ∧ l.length ≤ cap ∧ cap ≤ maxLen ∧ w.heap.size ≤ g ∧ HoldU w' g l.toArray ∧ KeptOf s l ∧ Below w.heap.size w w' := by
  obtain ⟨w1, hw1⟩ : ∃ w1, w.alloc (.cells #[.slice none 0 0] 49) = w1 := ⟨_, rfl⟩
  have hB1 : Below w.heap.size w w1 := by rw [← hw1]; exact (Below.refl _ w).alloc (Nat.le_refl _) _
  have hg1 : w1.heap[w.heap.size]? = some (.cells #[.slice none 0 0] 49 (0, 0)) := by rw [← hw1]; exact heap_alloc_new w _
  have hs1 : w.heap.size < w1.heap.size := (Array.getElem?_eq_some_iff.1 hg1).1
  have ca := askK_any (h.below hB1) hl hg1
  have HLEN : Hid ((rootsL s).length ≤ 1001 ∧ 1 ≤ (rootsL s).length) := by unfold Hid rootsL; simp; omega
  unfold ptrR at *
  clear h hg1 hl
  go_enter Try.func20, Try.ntmps20
  go_wp2_with fail
  refine ca.mono ?_
  rintro e1 w2 ⟨rfl, a, c, hq, ho, hS2⟩
  clear ca
  obtain ⟨hc1, hc2⟩ := own_cap ho
  have HC2 : Hid (c ≤ maxLen) := hc2
  have c0 : w2.cell? ⟨w.heap.size, 0, none⟩ = some (.slice a (rootsL s).length c) := by rw [cell_of_row _ _ 0 _ _ (0, 0) hq]; rfl
  obtain ⟨g, rfl, hgb⟩ : ∃ g, a = some ⟨g, 0, none⟩ ∧ w1.heap.size ≤ g := by
    obtain ⟨h1, ⟨e, h2⟩ | ⟨g', cap', cur, e, h3, _⟩⟩ := id ho
    · have := HLEN.out; omega
    · simp only [Value.slice.injEq] at e
      exact ⟨g', e.1, h3⟩
  have hh := own_hold ho rfl
  have cs := sort_any hh (rootsL s).length c (by simp) hc1 hc2 (by have := HLEN.out; omega)
  have HQ : Hid (w2.heap[w.heap.size]? = some (.cells #[.slice (some ⟨g, 0, none⟩) (rootsL s).length c] 49 (0, 0))) := hq
  have hgs : w.heap.size ≠ g := by omega
  have hw2s : w.heap.size < w2.heap.size := Nat.lt_of_lt_of_le hs1 hS2.size
  obtain ⟨n, hn⟩ : ∃ n, (rootsL s).length = n := ⟨_, rfl⟩
  rw [hn] at cs c0 HQ HLEN hc1
  have HNN : Hid ((rootsL s).length = n) := hn
  clear hq ho hh hn hc2
  go_wp2_with fail
  refine cs.mono ?_
  rintro e2 w3 ⟨rfl, d3, ⟨hp3, hso3⟩, hz3, hh3, hS3⟩
  clear cs
  have hq3 := (hS3.block w.heap.size hw2s (by simpa using hgs)).trans HQ.out
  have c3 : w3.cell? ⟨w.heap.size, 0, none⟩ = some (.slice (some ⟨g, 0, none⟩) n c) := by rw [cell_of_row _ _ 0 _ _ (0, 0) hq3]; rfl
  have hz3' : d3.size = n := by rw [hz3]; simpa using HNN.out
  have cc := compact_any hh3 n c hz3'.symm HLEN.out.2 (fun i j q1 q2 => lt_no.1 (hso3 i j (Nat.zero_le _) q1 q2)) hc1 HC2.out (by have := HLEN.out; omega)
  have HP3 : Hid (PermIn 0 n (rootsL s).toArray d3) := hp3
  clear hq3 hh3 hso3 hp3 c0 hz3
  have HZ3 : Hid (d3.size = n) := hz3'
  clear hz3'
  go_wp2_with fail
  refine cc.mono ?_
  rintro e3 w4 ⟨d4, rfl, h41, h4n, hh4, hc4, hS4⟩
  clear cc c3
  have HK : Hid (KeptOf s d4.toList) := by
    have hmem : ∀ v, v ∈ d4.toList ↔ v ∈ rootsL s := fun v => by
      have e1 : v ∈ d4.toList ↔ ∃ i, i < d4.size ∧ d4[i]! = v := by
        constructor
        · intro hv
          obtain ⟨i, hi, e⟩ := List.mem_iff_getElem.1 hv
          have hi' : i < d4.size := by simpa using hi
          exact ⟨i, hi', by rw [getElem!_pos d4 i hi', ← e]; simp⟩
        · rintro ⟨i, hi, rfl⟩
          rw [getElem!_pos d4 i hi]
          exact Array.mem_toList_iff.2 (Array.getElem_mem hi)
      have e2 : (∃ i, i < d3.size ∧ d3[i]! = v) ↔ v ∈ d3.toList := by
        constructor
        · rintro ⟨i, hi, rfl⟩
          rw [getElem!_pos d3 i hi]
          exact Array.mem_toList_iff.2 (Array.getElem_mem hi)
        · intro hv
          obtain ⟨i, hi, e⟩ := List.mem_iff_getElem.1 hv
          have hi' : i < d3.size := by simpa using hi
          exact ⟨i, hi', by rw [getElem!_pos d3 i hi', ← e]; simp⟩
      have e3 : d3.toList.Perm (rootsL s) := by
        have q := HP3.out.2.2
        have q1 : d3.extract 0 n = d3 := by rw [← HZ3.out]; simp
        have q2 : (rootsL s).toArray.extract 0 n = (rootsL s).toArray := by rw [← HNN.out]; simp
        rw [q1, q2] at q
        simpa using q
      rw [e1, hc4.mem v, e2]
      exact e3.mem_iff
    refine ⟨?_, fun v => ?_⟩
    · rw [List.pairwise_iff_getElem]
      intro i j hi hj hij
      have := hc4.rise i j hij (by simpa using hj)
      rw [getElem!_pos d4 i (by simpa using hi), getElem!_pos d4 j (by simpa using hj)] at this
      simpa using this
    · rw [hmem v]
      unfold rootsL
      simp only [List.mem_append, List.mem_map, List.mem_singleton]
      constructor
      · rintro (⟨x, q1, q2⟩ | q)
        · exact .inr ⟨x, q1, q2⟩
        · exact .inl q
      · rintro (q | ⟨x, q1, q2⟩)
        · exact .inr q
        · exact .inl ⟨x, q1, q2⟩
  clear hc4
  go_wp2
  go_ret
  have hb2 : Below w.heap.size w w2 := hS2.belowOf hB1 hB1.size (by simp)
  have hb3 : Below w.heap.size w w3 := hS3.belowOf hb2 hb2.size (by simp; omega)
  have hlen : d4.toList.length = d4.size := by simp
  refine ⟨g, c, d4.toList, by rw [hlen]; rfl, by rw [hlen]; exact h41, by rw [hlen]; have := HLEN.out; omega, by rw [hlen]; omega, HC2.out, by omega, by simpa using hh4, HK.out, hS4.belowOf hb3 hb3.size (by simp; omega)⟩

end Go.Proofs.Ytakifnlfgaedjaa
