/- IRead, IRead2, IDecode: in one text. -/
import Derived.Test.YtgajjphjkbnaeaaGreatQ1
import Derived.Test.YtgajjphjkbnaeaaGreatQ19
import Derived.Laws.IdiomStrings
import Derived.Deep.RegionHeld3
namespace Go.Proofs.YtgajjphjkbnaeaaGreat
open Go.RowKit
set_option linter.unusedVariables false
set_option maxHeartbeats 32000000
set_option maxRecDepth 100000
set_option linter.unusedSimpArgs false
theorem iconv_bytes (w : World) (s : ByteArray) (hs : s.size ≤ 1024) : ∃ v w',(convert 9 152 (.string s)).run Tryz.prog w = .ok v w' ∧ Rd w' v (strB s) ∧ Below w.heap.size w w':=by
 refine ⟨_,_,run_bytes_of_string w 9 152 5 s Tryz.underlying9 Tryz.underlying152 Tryz.underlying5,?_,(Below.refl _ w).drew.alloc (Nat.le_refl _) _⟩
 have hge:=grownCap_ge w s.size 0 5
 have hle:=grownCap_le_maxLen w s.size 0 5 (by unfold maxLen; omega)
 have hl:=strB_length s
 refine ⟨_,_,by rw [hl],by rw [hl]; exact hge,hle,(by intro e; cases e),fun hne => ⟨_,0,rfl,by simp,fun i hi => ?_⟩⟩
 rw [hl] at hi
 have hh : (w.drew.alloc (Obj.cells (bytesRow s (grownCap w s.size 0 5)) 5 ((bytesRow s (grownCap w s.size 0 5)).size,(bytesRow s (grownCap w s.size 0 5)).size + 1))).heap[w.heap.size]? = some (Obj.cells (bytesRow s (grownCap w s.size 0 5)) 5 ((bytesRow s (grownCap w s.size 0 5)).size,(bytesRow s (grownCap w s.size 0 5)).size + 1)):=heap_alloc_new w.drew _
 rw [Nat.zero_add,cell_of_row _ _ i _ 5 _ hh]
 have hi' : i < s.data.size:=hi
 unfold bytesRow
 rw [Array.getElem?_append_left (by simpa using hi'),Array.getElem?_map,Array.getElem?_eq_getElem hi',List.getD_eq_getElem?_getD]
 unfold strB
 rw [List.getElem?_map,Array.getElem?_toList,Array.getElem?_eq_getElem hi']
 rfl
theorem Rd.mid {w : World} {b off n cap : Nat} {xs : List Int} (h : Rd w (.slice (some ⟨b,off,none⟩) n cap) xs) (i k : Nat) (hk : i + k ≤ n) (hp : 0 < n) : Rd w (.slice (some ⟨b,off + i,none⟩) k (cap - i)) ((xs.drop i).take k):=by
 have hl:=rd_length h
 obtain ⟨a,c,e,h1,h2,h3,h4⟩:=h
 have hc : c = cap:=by simp only [Value.slice.injEq] at e; exact e.2.2.symm
 have ha : a = some ⟨b,off,none⟩:=by simp only [Value.slice.injEq] at e; exact e.1.symm
 subst hc ha
 have hdl : ((xs.drop i).take k).length = k:=by simp; omega
 refine ⟨_,_,by rw [hdl],by rw [hdl]; omega,by omega,(by intro e; cases e),fun _ => ?_⟩
 obtain ⟨b',off',e',hlt,hc⟩:=h4 (by intro e; subst e; simp at hl; omega)
 simp only [Option.some.injEq,Addr.mk.injEq] at e'
 obtain ⟨rfl,rfl,_⟩:=e'
 refine ⟨_,_,rfl,hlt,fun j hj => ?_⟩
 rw [hdl] at hj
 have:=hc (i + j) (by omega)
 rw [show off + i + j = off + (i + j) from by omega,this]
 simp [hj]
theorem Rd.cap {w : World} {a : Option Addr} {n cap : Nat} {xs : List Int} (h : Rd w (.slice a n cap) xs) : n ≤ cap:=by
 have hl:=rd_length h
 obtain ⟨a',c,e,h1,_⟩:=h
 simp only [Value.slice.injEq] at e
 omega
theorem Rd.opened {w : World} {v : Value} {xs : List Int} (h : Rd w v xs) (n : Nat) (hl : xs.length = n) (hp : 0 < n) : ∃ b off cap,v = .slice (some ⟨b,off,none⟩) n cap:=by
 obtain ⟨a,c,e,h1,h2,h3,h4⟩:=h
 obtain ⟨b,off,rfl,_⟩:=h4 (by intro e; subst e; simp at hl; omega)
 exact ⟨b,off,c,by rw [e,hl]⟩
def rdI (p : Int) (xs : List Int) : It:=if p = 1 then ⟨valB (xs.take 1),valB ((xs.drop 1).take 2),valB ((xs.drop 3).take 1),valB ((xs.drop 4).take 2),0,zeroC⟩ else if p = 2 then ⟨0,0,0,0,valB xs,zeroC⟩ else ⟨0,0,0,0,0,xs⟩
theorem rdI_1 (xs : List Int) : rdI 1 xs = ⟨valB (xs.take 1),valB ((xs.drop 1).take 2),valB ((xs.drop 3).take 1),valB ((xs.drop 4).take 2),0,zeroC⟩:=rfl
theorem rdI_2 (xs : List Int) : rdI 2 xs = ⟨0,0,0,0,valB xs,zeroC⟩:=rfl
theorem rdI_3 {p : Int} (h1 : p ≠ 1) (h2 : p ≠ 2) (xs : List Int) : rdI p xs = ⟨0,0,0,0,0,xs⟩:=by unfold rdI; rw [if_neg h1,if_neg h2]
theorem valB_small (xs : List Int) (h : Byt xs) (k : Nat) (hk : xs.length ≤ k) (h4 : k ≤ 4) : valB xs ≤ 4294967295:=by
 have h1:=valB_lt xs h
 have : (256 : Nat) ^ xs.length ≤ 256 ^ 4:=Nat.pow_le_pow_right (by decide) (by omega)
 have e : (256 : Nat) ^ 4 = 4294967296:=by decide
 omega
theorem rdI_ok (p : Int) (xs : List Int) (h : Byt xs) (hl : (xs.length : Int) = wid p) (hp : wid p ≠ 0) : ItOk (rdI p xs):=by
 have z : InoOk 0 0 0 0:=it0_ok.ino
 rcases wid_cases p with ⟨rfl,hw⟩ | ⟨rfl,hw⟩ | ⟨rfl,hw⟩ | ⟨h1,h2,h3,hw⟩
 ·rw [hw] at hl
  have e1:=valB_small (xs.take 1) (h.take 1) 4 (by simp; omega) (by omega)
  have e2:=valB_small ((xs.drop 1).take 2) ((h.drop 1).take 2) 4 (by simp; omega) (by omega)
  have e3:=valB_small ((xs.drop 3).take 1) ((h.drop 3).take 1) 4 (by simp; omega) (by omega)
  have e4:=valB_small ((xs.drop 4).take 2) ((h.drop 4).take 2) 4 (by simp; omega) (by omega)
  exact ⟨⟨by rw [rdI_1]; dsimp only; omega,by rw [rdI_1]; dsimp only; omega,by rw [rdI_1]; dsimp only; omega,by rw [rdI_1]; dsimp only; omega,by rw [rdI_1]; dsimp only; omega,by rw [rdI_1]; dsimp only; omega,by rw [rdI_1]; dsimp only; omega,by rw [rdI_1]; dsimp only; omega⟩,by rw [rdI_1]; dsimp only; omega,by rw [rdI_1]; dsimp only; omega,ch_zero⟩
 ·rw [hw] at hl
  have e1:=valB_small xs h 4 (by omega) (by omega)
  exact ⟨z,by rw [rdI_2]; dsimp only; omega,by rw [rdI_2]; dsimp only; omega,ch_zero⟩
 ·rw [hw] at hl
  exact ⟨z,by rw [rdI_3 (by decide) (by decide)]; exact Int.le_refl 0,by rw [rdI_3 (by decide) (by decide)]; exact (by decide : (0 : Int) ≤ 4294967295),⟨show xs.length = 32 by omega,h⟩⟩
 ·exact absurd hw hp
theorem read_1 (w : World) (b off cap : Nat) (xs : List Int) (hr : Rd w (.slice (some ⟨b,off,none⟩) 6 cap) xs) (hy : Byt xs) :
  Calls Tryz.prog 114 #[.int .i64 1,.slice (some ⟨b,off,none⟩) 6 cap] w fun e w' => e = .returned (thV 1 (rdI 1 xs)) ∧ Below w.heap.size w w':=by
 have hl:=rd_length hr
 have hcap:=hr.cap
 have g1 : (1 : Int) ≤ cap:=by omega
 have g1' : ¬ (cap : Int) < 1:=by omega
 have g3 : (3 : Int) ≤ cap:=by omega
 have g4 : (4 : Int) ≤ cap:=by omega
 have g6 : (6 : Int) ≤ cap:=by omega
 have e1 : ¬ cap = 1:=by omega
 have e3 : ¬ cap = 3:=by omega
 have e4 : ¬ cap = 4:=by omega
 have r0:=hr.mid 0 1 (by omega) (by omega)
 have r1:=hr.mid 1 2 (by omega) (by omega)
 have r2:=hr.mid 3 1 (by omega) (by omega)
 have r3:=hr.mid 4 2 (by omega) (by omega)
 have y0:=hy.take 1
 have y1:=(hy.drop 1).take 2
 have y2:=(hy.drop 3).take 1
 have y3:=(hy.drop 4).take 2
 rw [List.drop_zero,Nat.add_zero,Nat.sub_zero] at r0
 have l0 : (xs.take 1).length = 1:=by simp; omega
 have l1 : ((xs.drop 1).take 2).length = 2:=by simp; omega
 have l2 : ((xs.drop 3).take 1).length = 1:=by simp; omega
 have l3 : ((xs.drop 4).take 2).length = 2:=by simp; omega
 have b0:=valB_small _ y0 4 (by omega) (by omega)
 have b1:=valB_small _ y1 4 (by omega) (by omega)
 have b2:=valB_small _ y2 4 (by omega) (by omega)
 have b3:=valB_small _ y3 4 (by omega) (by omega)
 have n0 : ∀ W,Below w.heap.size w W → Calls Tryz.prog 131 #[.slice (some ⟨b,off,none⟩) 1 cap] W fun e w' => e = .returned (.int .u64 (valB (xs.take 1))) ∧ W = w':=fun W hW => numberI_any W _ _ (r0.below hW) y0 (by omega) (by omega)
 have n1 : ∀ W,Below w.heap.size w W → Calls Tryz.prog 131 #[.slice (some ⟨b,off + 1,none⟩) 2 (cap - 1)] W fun e w' => e = .returned (.int .u64 (valB ((xs.drop 1).take 2))) ∧ W = w':=fun W hW => numberI_any W _ _ (r1.below hW) y1 (by omega) (by omega)
 have n2 : ∀ W,Below w.heap.size w W → Calls Tryz.prog 131 #[.slice (some ⟨b,off + 3,none⟩) 1 (cap - 3)] W fun e w' => e = .returned (.int .u64 (valB ((xs.drop 3).take 1))) ∧ W = w':=fun W hW => numberI_any W _ _ (r2.below hW) y2 (by omega) (by omega)
 have n3 : ∀ W,Below w.heap.size w W → Calls Tryz.prog 131 #[.slice (some ⟨b,off + 4,none⟩) 2 (cap - 4)] W fun e w' => e = .returned (.int .u64 (valB ((xs.drop 4).take 2))) ∧ W = w':=fun W hW => numberI_any W _ _ (r3.below hW) y3 (by omega) (by omega)
 rw [thV_1,rdI_1]
 dsimp only
 clear r0 r1 r2 r3 y0 y1 y2 y3 l0 l1 l2 l3 hr
 generalize valB (xs.take 1) = a0 at *
 generalize valB ((xs.drop 1).take 2) = a1 at *
 generalize valB ((xs.drop 3).take 1) = a2 at *
 generalize valB ((xs.drop 4).take 2) = a3 at *
 clear hy hl
 go_enter Tryz.func114,Tryz.ntmps114
 go_wp2_with fail
 refine wp_region_noPanic ?_
 refine wp_region_held_drew (S:=fun W => Below w.heap.size w W) (by kernel_rfl) (Below.refl _ _).drew (fun hHeld => ?_)
 refine tk 0 (.slice (some ⟨b,off,none⟩) 6 cap) rfl ?_
 simp only [nz]
 refine tk 1 (.slice (some ⟨b,off,none⟩) 1 cap) rfl ?_
 simp only [nz]
 refine tk 4 (.slice (some ⟨b,off,none⟩) 6 cap) rfl ?_
 simp only [nz]
 refine tk 5 (.slice (some ⟨b,off + 1,none⟩) 2 (cap - 1)) rfl ?_
 simp only [nz]
 refine tk 8 (.slice (some ⟨b,off,none⟩) 6 cap) rfl ?_
 simp only [nz]
 refine tk 9 (.slice (some ⟨b,off + 3,none⟩) 1 (cap - 3)) rfl ?_
 simp only [nz]
 refine tk 12 (.slice (some ⟨b,off,none⟩) 6 cap) rfl ?_
 simp only [nz]
 refine tk 13 (.slice (some ⟨b,off + 4,none⟩) 2 (cap - 4)) rfl ?_
 simp only [nz]
 refine rd 2 rfl (fun K hK => ?_)
 go_simp
 go_wp2_with (go_at_call 131; refine (n0 _ (by assumption)).mono ?_; rintro e w' ⟨rfl,rfl⟩)
 refine hK.out _ _ (by assumption) (fun hHeld2 => ?_)
 clear hK K
 refine tk 3 (.int .i64 a0) rfl ?_ (fun W hSw => by (try dsimp only at hSw); (go_simp; rw [IntKind.wrap_i64]; omega))
 simp only [nz]
 refine rd 6 rfl (fun K hK => ?_)
 go_simp
 go_wp2_with (go_at_call 131; refine (n1 _ (by assumption)).mono ?_; rintro e w' ⟨rfl,rfl⟩)
 refine hK.out _ _ (by assumption) (fun hHeld2 => ?_)
 clear hK K
 refine tk 7 (.int .i64 a1) rfl ?_ (fun W hSw => by (try dsimp only at hSw); (go_simp; rw [IntKind.wrap_i64]; omega))
 simp only [nz]
 refine rd 10 rfl (fun K hK => ?_)
 go_simp
 go_wp2_with (go_at_call 131; refine (n2 _ (by assumption)).mono ?_; rintro e w' ⟨rfl,rfl⟩)
 refine hK.out _ _ (by assumption) (fun hHeld2 => ?_)
 clear hK K
 refine tk 11 (.int .i64 a2) rfl ?_ (fun W hSw => by (try dsimp only at hSw); (go_simp; rw [IntKind.wrap_i64]; omega))
 simp only [nz]
 refine rd 14 rfl (fun K hK => ?_)
 go_simp
 go_wp2_with (go_at_call 131; refine (n3 _ (by assumption)).mono ?_; rintro e w' ⟨rfl,rfl⟩)
 refine hK.out _ _ (by assumption) (fun hHeld2 => ?_)
 clear hK K
 refine tk 15 (.int .i64 a3) rfl ?_ (fun W hSw => by (try dsimp only at hSw); (go_simp; rw [IntKind.wrap_i64]; omega))
 simp only [nz]
 refine tk 16 (.agg #[.int .i64 a0,.int .i64 a1,.int .i64 a2,.int .i64 a3]) rfl ?_
 simp only [nz]
 refine tk 17 (.iface 239 (.agg #[.int .i64 a0,.int .i64 a1,.int .i64 a2,.int .i64 a3])) rfl ?_
 simp only [nz]
 refine tk 18 (.iface 239 (.agg #[.int .i64 a0,.int .i64 a1,.int .i64 a2,.int .i64 a3])) rfl ?_
 simp only [nz]
 refine wpAnyH_done (by kernel_rfl) ?_ _
 refine NoPanic.normal ?_
 clear n0 n1 n2 n3
 go_wp2
 go_ret
 exact ⟨rfl,hHeld⟩
theorem read_2 (w : World) (v : Value) (xs : List Int) (hr : Rd w v xs) (hy : Byt xs) (hl : xs.length = 4) :
  Calls Tryz.prog 114 #[.int .i64 2,v] w fun e w' => e = .returned (thV 2 (rdI 2 xs)) ∧ Below w.heap.size w w':=by
 have hn:=numberI_any w v xs hr hy (by omega) (by omega)
 have hb:=valB_small xs hy 4 (by omega) (by omega)
 rw [thV_2,rdI_2]
 dsimp only
 generalize valB xs = a at *
 clear hr hy hl
 go_enter Tryz.func114,Tryz.ntmps114
 go_wp2_with fail
 refine hn.mono ?_
 rintro e w1 ⟨rfl,rfl⟩
 have HW : Hid (IntKind.u32.wrap (a : Int) = a):=by unfold Hid; rw [IntKind.wrap_u32]; omega
 go_wp2
 go_ret
 refine ⟨?_,Below.refl _ _⟩
 try rfl
theorem Rd.range {w : World} {b off n cap : Nat} {xs : List Int} (h : Rd w (.slice (some ⟨b,off,none⟩) n cap) xs) : w.rangeAt b off (xs.map (Value.int .u8)):=by
 intro j v hv
 have hj : j < xs.length:=by
  rcases Nat.lt_or_ge j xs.length with h | h
  ·exact h
  ·rw [List.getElem?_eq_none (by simpa using h)] at hv; cases hv
 obtain ⟨a,c,e,h1,h2,h3,h4⟩:=h
 have ha : a = some ⟨b,off,none⟩:=by simp only [Value.slice.injEq] at e; exact e.1.symm
 subst ha
 obtain ⟨b',off',e',hlt,hc⟩:=h4 (by intro e; subst e; simp at hj)
 simp only [Option.some.injEq,Addr.mk.injEq] at e'
 obtain ⟨rfl,rfl,_⟩:=e'
 rw [hc j hj,← hv]
 simp [List.getElem?_eq_getElem hj]
theorem read_3 (w : World) (b off cap : Nat) (xs : List Int) (hr : Rd w (.slice (some ⟨b,off,none⟩) 32 cap) xs) :
  Calls Tryz.prog 114 #[.int .i64 3,.slice (some ⟨b,off,none⟩) 32 cap] w fun e w' => e = .returned (thV 3 (rdI 3 xs)) ∧ Below w.heap.size w w':=by
 have hl:=rd_length hr
 have HR : Hid (w.rangeAt b off (xs.map (Value.int .u8))):=hr.range
 have HS : Hid ((Tryz.prog.info? 241).map (·.size) = some (xs.map (Value.int .u8)).length):=by unfold Hid; rw [List.length_map,hl]; exact size_data
 rw [thV_3 (by decide) (by decide),rdI_3 (by decide) (by decide)]
 dsimp only
 have har : ∀ W,(Instr.arrayAt 241 (.slice (some ⟨b,off,none⟩) 32 cap)).run Tryz.prog W = .ok (.pointer (some ⟨b,off,none⟩)) W:=fun W => by simp [Instr.arrayAt,run_underlying Tryz.underlying241]
 clear hr hl
 go_enter Tryz.func114,Tryz.ntmps114
 go_wp2_with (refine wpList_load_mid rfl 241 _ rfl b off rfl _ _ HR.out Tryz.underlying241 rfl HS.out ?_)
 go_ret
 exact ⟨rfl,Below.refl _ _⟩
theorem readI_any (w : World) (p : Int) (v : Value) (xs : List Int) (hr : Rd w v xs) (hy : Byt xs) (hl : (xs.length : Int) = wid p) (hp : wid p ≠ 0) :
  Calls Tryz.prog 114 #[.int .i64 p,v] w fun e w' => e = .returned (thV p (rdI p xs)) ∧ Below w.heap.size w w':=by
 rcases wid_cases p with ⟨rfl,hw⟩ | ⟨rfl,hw⟩ | ⟨rfl,hw⟩ | ⟨h1,h2,h3,hw⟩
 ·obtain ⟨b,off,cap,rfl⟩:=hr.opened 6 (by omega) (by omega)
  exact read_1 w b off cap xs hr hy
 ·exact read_2 w v xs hr hy (by omega)
 ·obtain ⟨b,off,cap,rfl⟩:=hr.opened 32 (by omega) (by omega)
  exact read_3 w b off cap xs hr
 ·exact absurd hw hp
def decOk (p : Int) (s : ByteArray) : Bool:=decide ((s.size : Int) = wid p) && standsB p (rdI p (strB s))
def decE (p : Int) (s : ByteArray) : Int:=if wid p = 0 then 1 else if decOk p s then 0 else 11
def decI (p : Int) (s : ByteArray) : It:=if decE p s = 0 then rdI p (strB s) else it0
theorem dec_arg {p : Int} (h : wid p = 0) (s : ByteArray) : decE p s = 1 ∧ decI p s = it0:=by
 have : decE p s = 1:=by unfold decE; rw [if_pos h]
 exact ⟨this,by unfold decI; rw [this]; rfl⟩
theorem dec_no {p : Int} (h : wid p ≠ 0) {s : ByteArray} (ho : decOk p s = false) : decE p s = 11 ∧ decI p s = it0:=by
 have : decE p s = 11:=by unfold decE; rw [if_neg h,ho]; rfl
 exact ⟨this,by unfold decI; rw [this]; rfl⟩
theorem dec_yes {p : Int} (h : wid p ≠ 0) {s : ByteArray} (ho : decOk p s = true) : decE p s = 0 ∧ decI p s = rdI p (strB s):=by
 have : decE p s = 0:=by unfold decE; rw [if_neg h,ho]; rfl
 exact ⟨this,by unfold decI; rw [this]; rfl⟩
theorem giveI_rdI (p : Int) (xs : List Int) : giveI p (rdI p xs) = rdI p xs:=by
 by_cases h1 : p = 1
 ·subst h1; rfl
 ·by_cases h2 : p = 2
  ·subst h2; rfl
  ·rw [giveI_3 h1 h2,rdI_3 h1 h2]
theorem built_zero : Tryz.prog.built 128 [] = some (itC it0):=by kernel_rfl
theorem decode_z (w : World) (p : Int) (s : ByteArray) (h : wid p = 0) : Calls Tryz.prog 95 #[.int .i64 p,.string s] w fun e w' => e = .returned (.tuple #[.agg (itC it0),.int .i64 1]) ∧ Below w.heap.size w w':=by
 have hz:=zeroItem
 obtain ⟨w1,hw1⟩ : ∃ w1,w.alloc (.cells (itC it0) 128) = w1:=⟨_,rfl⟩
 have hB : Below w.heap.size w w1:=by rw [← hw1]; exact (Below.refl _ w).alloc (Nat.le_refl _) _
 have hat : ItAt 128 w1 w.heap.size it0:=by rw [← hw1]; exact ItAt.laid _ w it0
 have hwd:=fun W => widthOf_any W p
 rw [h] at hwd
 clear h
 go_enter Tryz.func95,Tryz.ntmps95
 go_wp2_with fail
 refine (hwd _).mono ?_
 rintro e w' ⟨rfl,rfl⟩
 clear hwd
 go_wp2_with (first | (refine ibuildBy rfl 128 _ rfl _ rfl [] (by kernel_rfl) (itC it0) built_zero ?_) | (refine wpList_storeI rfl _ _ rfl w.heap.size it0 it0 rfl rfl ch_zero.1 ch_zero.1 hat ?_))
 exact ret_item2 rfl w.heap.size it0 ch_zero.1 rfl _ rfl (hat.setRow _) rfl ⟨rfl,below_setRow hB (Nat.le_refl _) _⟩
theorem decode_l (w : World) (p : Int) (s : ByteArray) (h : wid p ≠ 0) (hl : (s.size : Int) ≠ wid p) : Calls Tryz.prog 95 #[.int .i64 p,.string s] w fun e w' => e = .returned (.tuple #[.agg (itC it0),.int .i64 11]) ∧ Below w.heap.size w w':=by
 have hz:=zeroItem
 obtain ⟨w1,hw1⟩ : ∃ w1,w.alloc (.cells (itC it0) 128) = w1:=⟨_,rfl⟩
 have hB : Below w.heap.size w w1:=by rw [← hw1]; exact (Below.refl _ w).alloc (Nat.le_refl _) _
 have hat : ItAt 128 w1 w.heap.size it0:=by rw [← hw1]; exact ItAt.laid _ w it0
 have hwd:=fun W => widthOf_any W p
 have hpI : ((wid p) == 0) = false:=by rw [beq_eq_false_iff_ne]; exact h
 have hlI : (((s.size : Int)) != wid p) = true:=by rw [bne_iff_ne]; exact hl
 generalize wid p = wd at *
 go_enter Tryz.func95,Tryz.ntmps95
 go_wp2_with fail
 refine (hwd _).mono ?_
 rintro e w' ⟨rfl,rfl⟩
 clear hwd
 go_wp2_with (first | (refine ibuildBy rfl 128 _ rfl _ rfl [] (by kernel_rfl) (itC it0) built_zero ?_) | (refine wpList_storeI rfl _ _ rfl w.heap.size it0 it0 rfl rfl ch_zero.1 ch_zero.1 hat ?_))
 exact ret_item2 rfl w.heap.size it0 ch_zero.1 rfl _ rfl (hat.setRow _) rfl ⟨rfl,below_setRow hB (Nat.le_refl _) _⟩
theorem decode_n (w : World) (p : Int) (s : ByteArray) (h : wid p ≠ 0) (hl : (s.size : Int) = wid p) (hs : standsB p (rdI p (strB s)) = false) : Calls Tryz.prog 95 #[.int .i64 p,.string s] w fun e w' => e = .returned (.tuple #[.agg (itC it0),.int .i64 11]) ∧ Below w.heap.size w w':=by
 have hz:=zeroItem
 obtain ⟨w1,hw1⟩ : ∃ w1,w.alloc (.cells (itC it0) 128) = w1:=⟨_,rfl⟩
 have hB : Below w.heap.size w w1:=by rw [← hw1]; exact (Below.refl _ w).alloc (Nat.le_refl _) _
 have hat : ItAt 128 w1 w.heap.size it0:=by rw [← hw1]; exact ItAt.laid _ w it0
 have hwd:=fun W => widthOf_any W p
 have hle : s.size ≤ 1024:=by rcases wid_cases p with ⟨_,hw⟩ | ⟨_,hw⟩ | ⟨_,hw⟩ | ⟨_,_,_,hw⟩ <;> omega
 obtain ⟨v2,w2,hcv,hr2,hb2⟩:=iconv_bytes w1 s hle
 have hlB : ((strB s).length : Int) = wid p:=by rw [strB_length]; exact hl
 have hok:=rdI_ok p (strB s) (strB_byt s) hlB h
 have hrd:=readI_any w2 p v2 (strB s) hr2 (strB_byt s) hlB h
 have hst : ∀ W,Calls Tryz.prog 115 #[thV p (rdI p (strB s))] W fun e w' => e = .returned (.bool false) ∧ Below W.heap.size W w':=fun W => by have:=stands_any W p _ hok; rwa [hs] at this
 have hgv : ∀ W,Calls Tryz.prog 116 #[thV p (rdI p (strB s))] W fun e w' => e = .returned (.agg (itC (rdI p (strB s)))) ∧ Below W.heap.size W w':=fun W => by have:=give_any W p _ hok; rwa [giveI_rdI] at this
 have hpI : ((wid p) == 0) = false:=by rw [beq_eq_false_iff_ne]; exact h
 have hch : Hid ((rdI p (strB s)).bytes.length = 32):=hok.ch.1
 clear hs hok hr2 hlB hle
 generalize rdI p (strB s) = q at *
 generalize wid p = wd at *
 subst hl
 have hat2:=hat.below hb2
 go_enter Tryz.func95,Tryz.ntmps95
 go_wp2_with fail
 refine (hwd _).mono ?_
 rintro e w' ⟨rfl,rfl⟩
 clear hwd
 go_wp2_with fail
 refine hrd.mono ?_
 rintro e w3 ⟨rfl,hb3⟩
 have hat3:=hat2.below hb3
 clear hrd hat2 hat
 go_wp2_with fail
 refine (hst _).mono ?_
 rintro e w4 ⟨rfl,hb4⟩
 have hat4:=hat3.below hb4
 have hB4:=thenB hB (thenB hb2 (thenB hb3 hb4))
 clear hst hat3 hcv hpI
 go_wp2_with (first | (refine ibuildBy rfl 128 _ rfl _ rfl [] (by kernel_rfl) (itC it0) built_zero ?_) | (refine wpList_storeI rfl _ _ rfl w.heap.size it0 it0 rfl rfl ch_zero.1 ch_zero.1 hat4 ?_))
 exact ret_item2 rfl w.heap.size it0 ch_zero.1 rfl _ rfl (hat4.setRow _) rfl ⟨rfl,below_setRow hB4 (Nat.le_refl _) _⟩
theorem decode_y (w : World) (p : Int) (s : ByteArray) (h : wid p ≠ 0) (hl : (s.size : Int) = wid p) (hs : standsB p (rdI p (strB s)) = true) : Calls Tryz.prog 95 #[.int .i64 p,.string s] w fun e w' => e = .returned (.tuple #[.agg (itC (rdI p (strB s))),.int .i64 0]) ∧ Below w.heap.size w w':=by
 have hz:=zeroItem
 obtain ⟨w1,hw1⟩ : ∃ w1,w.alloc (.cells (itC it0) 128) = w1:=⟨_,rfl⟩
 have hB : Below w.heap.size w w1:=by rw [← hw1]; exact (Below.refl _ w).alloc (Nat.le_refl _) _
 have hat : ItAt 128 w1 w.heap.size it0:=by rw [← hw1]; exact ItAt.laid _ w it0
 have hwd:=fun W => widthOf_any W p
 have hle : s.size ≤ 1024:=by rcases wid_cases p with ⟨_,hw⟩ | ⟨_,hw⟩ | ⟨_,hw⟩ | ⟨_,_,_,hw⟩ <;> omega
 obtain ⟨v2,w2,hcv,hr2,hb2⟩:=iconv_bytes w1 s hle
 have hlB : ((strB s).length : Int) = wid p:=by rw [strB_length]; exact hl
 have hok:=rdI_ok p (strB s) (strB_byt s) hlB h
 have hrd:=readI_any w2 p v2 (strB s) hr2 (strB_byt s) hlB h
 have hst : ∀ W,Calls Tryz.prog 115 #[thV p (rdI p (strB s))] W fun e w' => e = .returned (.bool true) ∧ Below W.heap.size W w':=fun W => by have:=stands_any W p _ hok; rwa [hs] at this
 have hgv : ∀ W,Calls Tryz.prog 116 #[thV p (rdI p (strB s))] W fun e w' => e = .returned (.agg (itC (rdI p (strB s)))) ∧ Below W.heap.size W w':=fun W => by have:=give_any W p _ hok; rwa [giveI_rdI] at this
 have hpI : ((wid p) == 0) = false:=by rw [beq_eq_false_iff_ne]; exact h
 have hch : Hid ((rdI p (strB s)).bytes.length = 32):=hok.ch.1
 clear hs hok hr2 hlB hle
 generalize rdI p (strB s) = q at *
 generalize wid p = wd at *
 subst hl
 have hat2:=hat.below hb2
 go_enter Tryz.func95,Tryz.ntmps95
 go_wp2_with fail
 refine (hwd _).mono ?_
 rintro e w' ⟨rfl,rfl⟩
 clear hwd
 go_wp2_with fail
 refine hrd.mono ?_
 rintro e w3 ⟨rfl,hb3⟩
 have hat3:=hat2.below hb3
 clear hrd hat2 hat
 go_wp2_with fail
 refine (hst _).mono ?_
 rintro e w4 ⟨rfl,hb4⟩
 have hat4:=hat3.below hb4
 have hB4:=thenB hB (thenB hb2 (thenB hb3 hb4))
 clear hst hat3 hcv hpI
 go_wp2_with fail
 refine (hgv _).mono ?_
 rintro e w5 ⟨rfl,hb5⟩
 have hat5:=hat4.below hb5
 have hB5:=thenB hB4 hb5
 clear hgv hat4
 go_wp2_with (refine wpList_storeI rfl _ _ rfl w.heap.size q it0 rfl rfl hch.out ch_zero.1 hat5 ?_)
 exact ret_item2 rfl w.heap.size q hch.out rfl _ rfl (hat5.setRow _) rfl ⟨rfl,below_setRow hB5 (Nat.le_refl _) _⟩
theorem decode_any (w : World) (p : Int) (s : ByteArray) : Calls Tryz.prog 95 #[.int .i64 p,.string s] w fun e w' => e = .returned (.tuple #[.agg (itC (decI p s)),.int .i64 (decE p s)]) ∧ Below w.heap.size w w':=by
 by_cases hp : wid p = 0
 ·obtain ⟨e1,e2⟩:=dec_arg hp s
  rw [e1,e2]
  exact decode_z w p s hp
 ·by_cases hl : (s.size : Int) = wid p
  ·cases h2 : standsB p (rdI p (strB s)) with
   | false =>
    obtain ⟨e1,e2⟩:=dec_no hp (s:=s) (by unfold decOk; rw [h2,Bool.and_false])
    rw [e1,e2]
    exact decode_n w p s hp hl h2
   | true =>
    obtain ⟨e1,e2⟩:=dec_yes hp (s:=s) (by unfold decOk; rw [h2,decide_eq_true hl]; rfl)
    rw [e1,e2]
    exact decode_y w p s hp hl h2
  ·obtain ⟨e1,e2⟩:=dec_no hp (s:=s) (by unfold decOk; rw [decide_eq_false hl]; rfl)
   rw [e1,e2]
   exact decode_l w p s hp hl
theorem decI_ok (p : Int) (s : ByteArray) : ItOk (decI p s):=by
 by_cases hp : wid p = 0
 ·rw [(dec_arg hp s).2]; exact it0_ok
 ·cases h : decOk p s with
  | false => rw [(dec_no hp h).2]; exact it0_ok
  | true =>
   rw [(dec_yes hp h).2]
   unfold decOk at h
   rw [Bool.and_eq_true,decide_eq_true_iff] at h
   exact rdI_ok p _ (strB_byt s) (by rw [strB_length]; exact h.1) hp
end Go.Proofs.YtgajjphjkbnaeaaGreat
