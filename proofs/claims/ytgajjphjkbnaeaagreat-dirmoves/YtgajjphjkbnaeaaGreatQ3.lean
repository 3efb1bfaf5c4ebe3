/- PState, PCmp, PSmall, PName: in one text. -/
import Derived.Test.YtgajjphjkbnaeaaGreatQ1
import Derived.Test.YtgajjphjkbnaeaaGreatQ2
import Derived.Laws.Rows
import Derived.Lib.Bytealg
import Derived.Laws.Externs
namespace Go.Proofs.YtgajjphjkbnaeaaGreat
open Go.RowKit
set_option linter.unusedVariables false
set_option maxHeartbeats 32000000
set_option maxRecDepth 100000
set_option linter.unusedSimpArgs false
structure Pl where
 ino : Int
 part : Int
 name : ByteArray
 chunk : Int
structure PlOk (p : Pl) : Prop where
 i0 : 0 ≤ p.ino
 i1 : p.ino ≤ 4294967295
 p0 : -9223372036854775808 ≤ p.part
 p1 : p.part ≤ 9223372036854775807
 n1 : p.name.size ≤ maxLen
 c0 : 0 ≤ p.chunk
 c1 : p.chunk ≤ 4294967295
def plCells (p : Pl) : Array Value:=#[.int .u32 p.ino,.int .i64 p.part,.string p.name,.int .u32 p.chunk]
def plV (p : Pl) : Value:=.agg #[.int .u32 p.ino,.int .i64 p.part,.string p.name,.int .u32 p.chunk]
def pl0 : Pl:=⟨0,0,⟨#[]⟩,0⟩
def recP (i : Int) : Pl:=⟨i,1,⟨#[]⟩,0⟩
def entP (i : Int) (s : ByteArray) : Pl:=⟨i,2,s,0⟩
def datP (i c : Int) : Pl:=⟨i,3,⟨#[]⟩,c⟩
structure PlAt (w : World) (g : Nat) (p : Pl) : Prop where
 row : w.heap[g]? = some (.cells (plCells p) 110 (0,0))
theorem PlAt.lt {w : World} {g : Nat} {p : Pl} (h : PlAt w g p) : g < w.heap.size:=(Array.getElem?_eq_some_iff.1 h.row).1
theorem PlAt.below {w w' : World} {g : Nat} {p : Pl} (h : PlAt w g p) (hb : Below w.heap.size w w') : PlAt w' g p:=⟨(hb.block g h.lt).trans h.row⟩
theorem PlAt.laid (w : World) (p : Pl) : PlAt (w.alloc (.cells (plCells p) 110)) w.heap.size p:=⟨heap_alloc_new w _⟩
theorem PlAt.cell {w : World} {g : Nat} {p : Pl} (h : PlAt w g p) (j : Nat) (v : Value) (hv : (plCells p)[j]? = some v) : w.cell? ⟨g,j,none⟩ = some v:=by
 rw [cell_of_row w g j _ _ (0,0) h.row]; exact hv
theorem PlAt.c0 {w : World} {g : Nat} {p : Pl} (h : PlAt w g p) : w.cell? ⟨g,0,none⟩ = some (.int .u32 p.ino):=h.cell 0 _ rfl
theorem PlAt.c1 {w : World} {g : Nat} {p : Pl} (h : PlAt w g p) : w.cell? ⟨g,1,none⟩ = some (.int .i64 p.part):=h.cell 1 _ rfl
theorem PlAt.c2 {w : World} {g : Nat} {p : Pl} (h : PlAt w g p) : w.cell? ⟨g,2,none⟩ = some (.string p.name):=h.cell 2 _ rfl
theorem PlAt.c3 {w : World} {g : Nat} {p : Pl} (h : PlAt w g p) : w.cell? ⟨g,3,none⟩ = some (.int .u32 p.chunk):=h.cell 3 _ rfl
def put4 (w : World) (g : Nat) (q : Pl) : World:=(((w.setCell ⟨g,0,none⟩ (.int .u32 q.ino)).setCell ⟨g,1,none⟩ (.int .i64 q.part)).setCell ⟨g,2,none⟩ (.string q.name)).setCell ⟨g,3,none⟩ (.int .u32 q.chunk)
theorem PlAt.put4 {w : World} {g : Nat} {p : Pl} (h : PlAt w g p) (q : Pl) : PlAt (put4 w g q) g q:=by
 have h1:=heap_setCell_same w g 0 _ _ (.int .u32 q.ino) h.row
 have h2:=heap_setCell_same _ g 1 _ _ (.int .i64 q.part) h1
 have h3:=heap_setCell_same _ g 2 _ _ (.string q.name) h2
 have h4:=heap_setCell_same _ g 3 _ _ (.int .u32 q.chunk) h3
 exact ⟨h4⟩
theorem below_put4 {B : Nat} {w0 w : World} {g : Nat} (hb : Below B w0 w) (hg : B ≤ g) (q : Pl) : Below B w0 (put4 w g q):=(((hb.setCell hg _).setCell hg _).setCell hg _).setCell hg _
theorem PlAt.fr {w : World} {g : Nat} {p : Pl} (h : PlAt w g p) (j : Nat) : w.frozen? ⟨g,j,none⟩ = false:=by simp [World.frozen?,h.row]
def cmpI (a b : Int) : Int:=if a < b then -1 else if b < a then 1 else 0
def cmpS (a b : ByteArray) : Int:=if Op.bytesLess a.toList b.toList = true then -1 else if (a.toList == b.toList) = true then 0 else 1
def orL : List Int → Int
 | [] => 0
 | x :: xs => if x = 0 then orL xs else x
theorem nanU_any (w : World) (x : Int) : Calls Tryz.prog 162 #[.int .u32 x] w fun e w' => e = .returned (.bool false) ∧ w = w':=by
 go_enter Tryz.func162,Tryz.ntmps162
 go_wp2
 go_ret
 exact ⟨rfl,rfl⟩
theorem nanI_any (w : World) (x : Int) : Calls Tryz.prog 163 #[.int .i64 x] w fun e w' => e = .returned (.bool false) ∧ w = w':=by
 go_enter Tryz.func163,Tryz.ntmps163
 go_wp2
 go_ret
 exact ⟨rfl,rfl⟩
theorem nanS_any (w : World) (x : ByteArray) : Calls Tryz.prog 164 #[.string x] w fun e w' => e = .returned (.bool false) ∧ w = w':=by
 go_enter Tryz.func164,Tryz.ntmps164
 go_wp2
 go_ret
 exact ⟨rfl,rfl⟩
theorem cmpU_any (w : World) (a b : Int) : Calls Tryz.prog 144 #[.int .u32 a,.int .u32 b] w fun e w' => e = .returned (.int .i64 (cmpI a b)) ∧ w = w':=by
 unfold cmpI
 by_cases h1 : a < b
 ·rw [if_pos h1]
  go_enter Tryz.func144,Tryz.ntmps144
  go_wp2_with (go_at_call 162; refine (nanU_any _ _).mono ?_; rintro e w1 ⟨rfl,rfl⟩)
  go_ret
  exact ⟨rfl,rfl⟩
 ·rw [if_neg h1]
  by_cases h2 : b < a
  ·rw [if_pos h2]
   go_enter Tryz.func144,Tryz.ntmps144
   go_wp2_with (go_at_call 162; refine (nanU_any _ _).mono ?_; rintro e w1 ⟨rfl,rfl⟩)
   go_ret
   exact ⟨rfl,rfl⟩
  ·rw [if_neg h2]
   go_enter Tryz.func144,Tryz.ntmps144
   go_wp2_with (go_at_call 162; refine (nanU_any _ _).mono ?_; rintro e w1 ⟨rfl,rfl⟩)
   go_ret
   exact ⟨rfl,rfl⟩
theorem cmpI_any (w : World) (a b : Int) : Calls Tryz.prog 145 #[.int .i64 a,.int .i64 b] w fun e w' => e = .returned (.int .i64 (cmpI a b)) ∧ w = w':=by
 unfold cmpI
 by_cases h1 : a < b
 ·rw [if_pos h1]
  go_enter Tryz.func145,Tryz.ntmps145
  go_wp2_with (go_at_call 163; refine (nanI_any _ _).mono ?_; rintro e w1 ⟨rfl,rfl⟩)
  go_ret
  exact ⟨rfl,rfl⟩
 ·rw [if_neg h1]
  by_cases h2 : b < a
  ·rw [if_pos h2]
   go_enter Tryz.func145,Tryz.ntmps145
   go_wp2_with (go_at_call 163; refine (nanI_any _ _).mono ?_; rintro e w1 ⟨rfl,rfl⟩)
   go_ret
   exact ⟨rfl,rfl⟩
  ·rw [if_neg h2]
   go_enter Tryz.func145,Tryz.ntmps145
   go_wp2_with (go_at_call 163; refine (nanI_any _ _).mono ?_; rintro e w1 ⟨rfl,rfl⟩)
   go_ret
   exact ⟨rfl,rfl⟩
theorem cmpS_any (w : World) (a b : ByteArray) : Calls Tryz.prog 146 #[.string a,.string b] w fun e w' => e = .returned (.int .i64 (cmpS a b)) ∧ w = w':=by
 unfold cmpS
 cases h1 : Op.bytesLess a.toList b.toList
 ·cases h2 : (a.toList == b.toList)
  ·go_enter Tryz.func146,Tryz.ntmps146
   go_wp2_with (go_at_call 164; refine (nanS_any _ _).mono ?_; rintro e w1 ⟨rfl,rfl⟩)
   go_ret
   exact ⟨rfl,rfl⟩
  ·go_enter Tryz.func146,Tryz.ntmps146
   go_wp2_with (go_at_call 164; refine (nanS_any _ _).mono ?_; rintro e w1 ⟨rfl,rfl⟩)
   go_ret
   exact ⟨rfl,rfl⟩
 ·go_enter Tryz.func146,Tryz.ntmps146
  go_wp2_with (go_at_call 164; refine (nanS_any _ _).mono ?_; rintro e w1 ⟨rfl,rfl⟩)
  go_ret
  exact ⟨rfl,rfl⟩
theorem orL_drop (xs : List Int) (i : Nat) (hi : i < xs.length) : orL (xs.drop i) = if xs.getD i 0 = 0 then orL (xs.drop (i + 1)) else xs.getD i 0:=by
 rw [List.drop_eq_getElem_cons hi,orL,List.getD_eq_getElem?_getD,List.getElem?_eq_getElem hi]
 rfl
theorem or_any (w : World) (g cap : Nat) (xs : List Int) (hl : xs.length ≤ 1000) (hc : ∀ j,j < xs.length → w.cell? ⟨g,j,none⟩ = some (.int .i64 (xs.getD j 0))) :
  Calls Tryz.prog 143 #[.slice (some ⟨g,0,none⟩) xs.length cap] w fun e w' => e = .returned (.int .i64 (orL xs)) ∧ w = w':=by
 go_enter Tryz.func143,Tryz.ntmps143
 go_wp2
 go_loop [8] (fun t => ∃ i : Nat,i ≤ xs.length ∧ t = .int .i64 i ∧ orL xs = orL (xs.drop i)) (fun t => xs.length - (intOf t).toNat)
 case atStart => exact ⟨0,Nat.zero_le _,rfl,rfl⟩
 case round =>
  obtain ⟨i,hi,rfl,hor⟩:=hrel
  have HO : Hid (orL xs = orL (xs.drop i)):=hor
  clear hor
  by_cases hlt : i < xs.length
  ·have hci:=hc i hlt
   have hil : (i : Int) < xs.length:=by omega
   have HD : Hid (orL (xs.drop i) = if xs.getD i 0 = 0 then orL (xs.drop (i + 1)) else xs.getD i 0):=orL_drop xs i hlt
   generalize xs.getD i 0 = z at *
   clear hc
   by_cases hz : z = 0
   ·subst hz
    go_wp2
    go_round
    case rel => exact ⟨i + 1,by omega,by go_num,by rw [HO.out,HD.out,if_pos rfl]⟩
    case measure => simp [intOf]; omega
   ·have hz' : (z != 0) = true:=by simpa using hz
    go_wp2
    go_ret
    exact ⟨congrArg (fun x => Ending.returned (Value.int .i64 x)) (by rw [HO.out,HD.out,if_neg hz]),rfl⟩
  ·obtain rfl : i = xs.length:=by omega
   go_wp2
   go_ret
   exact ⟨congrArg (fun x => Ending.returned (Value.int .i64 x)) (by rw [HO.out,List.drop_length]; rfl),rfl⟩
theorem ret_place {fn : Func} {R : Ending → World → Prop} {a : Act} {w : World} {p : Tmp} (h : fn.results = #[.cell p 110]) (g : Nat) (q : Pl) {t : TypeId} {fr : Nat × Nat} (hp : a.tmps.getD p undef = .pointer (some ⟨g,0,none⟩))
  (hg : w.heap[g]? = some (.cells (plCells q) t fr)) (hd : a.defers = []) (hR : R (.returned (plV q)) w) : bodyPost Tryz.prog fn R .ret a w :=
 bodyPost_ret (results_cell_row h a.tmps w g t (plCells q) fr _ hp hg Tryz.underlying110 rfl (by kernel_rfl)) hd hR
theorem ret_place2 {fn : Func} {R : Ending → World → Prop} {a : Act} {w : World} {p u : Tmp} (h : fn.results = #[.cell p 110,.tmp u]) (g : Nat) (q : Pl) {t : TypeId} {fr : Nat × Nat} (hp : a.tmps.getD p undef = .pointer (some ⟨g,0,none⟩)) (v : Value) (hu : a.tmps.getD u undef = v)
  (hg : w.heap[g]? = some (.cells (plCells q) t fr)) (hd : a.defers = []) (hR : R (.returned (.tuple #[plV q,v])) w) : bodyPost Tryz.prog fn R .ret a w:=by
 refine bodyPost_ret ?_ hd hR
 have hp' : a.tmps[p]?.getD undef = .pointer (some ⟨g,0,none⟩):=by simpa using hp
 have hu' : a.tmps[u]?.getD undef = v:=by simpa using hu
 have hl:=run_loadVar_row (P:=Tryz.prog) w g t 110 (plCells q) fr _ hg Tryz.underlying110 rfl (by kernel_rfl)
 simp [results,h,hp',hu',asAddr,hl,Result.andThen]
 rfl
theorem record_any (w : World) (i : Int) : Calls Tryz.prog 136 #[.int .u32 i] w fun e w' => e = .returned (plV (recP i)) ∧ Below w.heap.size w w':=by
 go_enter Tryz.func136,Tryz.ntmps136
 go_wp2
 exact ret_place rfl w.heap.size (recP i) rfl (heap_alloc_new w _) rfl ⟨rfl,(Below.refl _ _).alloc (Nat.le_refl _) _⟩
theorem entry_any (w : World) (i : Int) (s : ByteArray) : Calls Tryz.prog 138 #[.int .u32 i,.string s] w fun e w' => e = .returned (plV (entP i s)) ∧ Below w.heap.size w w':=by
 go_enter Tryz.func138,Tryz.ntmps138
 go_wp2
 exact ret_place rfl w.heap.size (entP i s) rfl (heap_alloc_new w _) rfl ⟨rfl,(Below.refl _ _).alloc (Nat.le_refl _) _⟩
theorem data_any (w : World) (i c : Int) : Calls Tryz.prog 139 #[.int .u32 i,.int .u32 c] w fun e w' => e = .returned (plV (datP i c)) ∧ Below w.heap.size w w':=by
 go_enter Tryz.func139,Tryz.ntmps139
 go_wp2
 exact ret_place rfl w.heap.size (datP i c) rfl (heap_alloc_new w _) rfl ⟨rfl,(Below.refl _ _).alloc (Nat.le_refl _) _⟩
theorem fixE_four (n : Int) (h0 : 0 ≤ n) (h1 : n ≤ 4294967295) : fixE n 4 = 0:=by
 unfold fixE
 rw [if_neg (by omega)]
 have : ((n : Int) / 2 ^ (8 * (4 : Int).toNat) != 0) = false:=by
  rw [bne_eq_false_iff_eq,show (2 : Int) ^ (8 * (4 : Int).toNat) = 4294967296 from by decide]
  omega
 rw [this]; rfl
theorem fixL_four (n : Int) (h0 : 0 ≤ n) (h1 : n ≤ 4294967295) : fixL n 4 = fixB n.toNat 4:=by
 unfold fixL; rw [if_pos (fixE_four n h0 h1)]; rfl
theorem fixed4_any (w : World) (n : Int) (h0 : 0 ≤ n) (h1 : n ≤ 4294967295) : Calls Tryz.prog 112 #[.int .u32 n] w fun e w' =>
  ∃ v,e = .returned v ∧ Own w' w.heap.size v (fixB n.toNat 4) ∧ Below w.heap.size w w':=by
 go_enter Tryz.func112,Tryz.ntmps112
 go_wp2_with fail
 refine (fixed_any _ n 4 h0 (by omega)).mono ?_
 rintro e w1 ⟨v1,rfl,ho1,hb1⟩
 rw [fixL_four n h0 h1] at ho1
 go_wp2
 go_ret
 exact ⟨_,rfl,ho1,hb1⟩
theorem number4_any (w : World) (v : Value) (xs : List Int) (h : Rd w v xs) (hy : Byt xs) (hl : 4 ≤ xs.length) : Calls Tryz.prog 135 #[v] w fun e w' => e = .returned (.int .u32 (valB (xs.take 4))) ∧ w = w':=by
 have e1 : numE xs 4 = 0:=by unfold numE; rw [if_neg (by omega),if_neg (by omega)]
 have e2 : numV xs 4 = valB (xs.take 4):=by unfold numV; rw [e1]; rfl
 have HM : Hid (((valB (xs.take 4) : Nat) : Int) % 4294967296 = (valB (xs.take 4) : Nat)):=by
  have h1:=valB_lt (xs.take 4) (hy.take 4)
  rw [List.length_take,Nat.min_eq_left hl] at h1
  show _ = _
  omega
 go_enter Tryz.func135,Tryz.ntmps135
 go_wp2_with fail
 refine (number_any _ _ xs 4 h hy).mono ?_
 rintro e w1 ⟨rfl,rfl⟩
 rw [e1,e2]
 go_wp2
 go_ret
 refine ⟨?_,rfl⟩
 exact congrArg (fun x => Ending.returned (Value.int .u32 x)) HM.out
def plEq (a b : Pl) : Bool:=a.ino == b.ino && a.part == b.part && a.name.toList == b.name.toList && a.chunk == b.chunk
theorem plEq_iff {a b : Pl} : plEq a b = true ↔ a = b:=by
 obtain ⟨i,k,s,c⟩:=a
 obtain ⟨i',k',s',c'⟩:=b
 simp only [plEq,Bool.and_eq_true,beq_iff_eq,Pl.mk.injEq]
 constructor
 ·rintro ⟨⟨⟨rfl,rfl⟩,h⟩,rfl⟩
  refine ⟨rfl,rfl,?_,rfl⟩
  rw [ByteArray.toList_eq,ByteArray.toList_eq] at h
  obtain ⟨d⟩:=s
  obtain ⟨d'⟩:=s'
  exact congrArg ByteArray.mk (Array.ext' h)
 ·rintro ⟨rfl,rfl,rfl,rfl⟩
  exact ⟨⟨⟨rfl,rfl⟩,rfl⟩,rfl⟩
theorem equal_places (w : World) (i k c i' k' c' : Int) (s s' : ByteArray) : (Op.equalIn 10000 110 (.agg #[.int .u32 i,.int .i64 k,.string s,.int .u32 c]) (.agg #[.int .u32 i',.int .i64 k',.string s',.int .u32 c'])).run Tryz.prog w = .ok (plEq ⟨i,k,s,c⟩ ⟨i',k',s',c'⟩) w:=by
 have u3:=Tryz.underlying3
 have u9:=Tryz.underlying9
 have u22:=Tryz.underlying30
 have hS : Tryz.prog.underlying 110 = some (.struct (Tryz.prog.fieldsOf 110)):=by kernel_rfl
 have hp : Tryz.prog.stoodInHeld 110 = false:=by kernel_rfl
 rw [show (10000 : Nat) = 9999 + 1 from rfl,run_equalIn_agg w 9999 _ _ _ hS hp]
 simp only [Program.fieldsOf,Tryz.underlying110]
 go_simp
 unfold plEq
 by_cases h1 : i = i' <;> by_cases h2 : k = k' <;> by_cases h3 : s.toList = s'.toList <;> by_cases h4 : c = c' <;> simp [h1,h2,h3,h4]
theorem eq_places (w : World) (i k c i' k' c' : Int) (s s' : ByteArray) : (binOp .eql 110 (.agg #[.int .u32 i,.int .i64 k,.string s,.int .u32 c]) (.agg #[.int .u32 i',.int .i64 k',.string s',.int .u32 c'])).run Tryz.prog w = .ok (.bool (plEq ⟨i,k,s,c⟩ ⟨i',k',s',c'⟩)) w:=by
 rw [run_eql_struct,equal_places]
 rfl
theorem indexLite_any (w : World) (s : ByteArray) (c : Int) : Calls Tryz.prog 109 #[.string s,.int .u8 c] w fun e w' => e = .returned (.int .i64 (Lib.indexByte s.data.toList c.toNat.toUInt8)) ∧ w = w':=by
 go_enter Tryz.func109,Tryz.ntmps109
 go_wp2
 rw [run_callFunc_extern Tryz.func127 (by kernel_rfl) (by kernel_rfl) (by kernel_rfl) (e:=Extern.BytealgIndexByte.indexByte) (by kernel_rfl),Lib.run_indexByteString]
 simp only [Result.andThen]
 rw [Oper.upon_value]
 go_wp2
 go_ret
 exact ⟨rfl,rfl⟩
theorem indexStr_any (w : World) (s : ByteArray) (c : Int) : Calls Tryz.prog 91 #[.string s,.int .u8 c] w fun e w' => e = .returned (.int .i64 (Lib.indexByte s.data.toList c.toNat.toUInt8)) ∧ w = w':=by
 go_enter Tryz.func91,Tryz.ntmps91
 go_wp2_with fail
 refine (indexLite_any _ _ _).mono ?_
 rintro e w1 ⟨rfl,rfl⟩
 go_wp2
 go_ret
 exact ⟨rfl,rfl⟩
def nameOk (s : ByteArray) : Bool:=decide (1 ≤ s.size) && decide (s.size ≤ 8) && !(s.toList == [46]) && !(s.toList == [46,46]) && !(s.data.toList.contains 0) && !(s.data.toList.contains 47)
theorem indexByte_contains (l : List UInt8) (c : UInt8) : decide (0 ≤ Lib.indexByte l c) = l.contains c:=by
 induction l with
 | nil => simp [Lib.indexByte]
 | cons b l ih =>
  unfold Lib.indexByte
  have hge:=Lib.indexByte_ge l c
  rw [List.contains_cons,← ih]
  have hc : (c == b) = (b == c):=by rw [Bool.eq_iff_iff,beq_iff_eq,beq_iff_eq]; exact eq_comm
  rw [hc]
  by_cases h : b == c
  ·simp [h]
  ·simp only [h]
   by_cases h1 : Lib.indexByte l c == -1
   ·have:=beq_iff_eq.1 h1
    simp [this]
   ·have : Lib.indexByte l c ≠ -1:=fun e => h1 (beq_iff_eq.2 e)
    simp [h1]
    omega
def nameE (s : ByteArray) : Int:=if nameOk s then 0 else 30
theorem nameE_30 {s : ByteArray} (h : nameOk s = false) : nameE s = 30:=by unfold nameE; rw [h]; rfl
theorem nameE_0 {s : ByteArray} (h : nameOk s = true) : nameE s = 0:=by unfold nameE; rw [h]; rfl
theorem checkName_any (w : World) (s : ByteArray) (hs : s.size ≤ maxLen) : Calls Tryz.prog 74 #[.string s] w fun e w' => e = .returned (.int .i64 (nameE s)) ∧ w = w':=by
 unfold maxLen at hs
 have k0:=indexByte_contains s.data.toList 0
 have k47:=indexByte_contains s.data.toList 47
 by_cases h1 : (s.size : Int) < 1
 ·rw [nameE_30 (by unfold nameOk; simp; omega)]
  clear k0 k47
  go_enter Tryz.func74,Tryz.ntmps74
  go_wp2_with fail
  go_ret
  exact ⟨rfl,rfl⟩
 ·by_cases h2 : 8 < (s.size : Int)
  ·rw [nameE_30 (by unfold nameOk; simp; omega)]
   clear k0 k47
   go_enter Tryz.func74,Tryz.ntmps74
   go_wp2_with fail
   go_ret
   exact ⟨rfl,rfl⟩
  ·by_cases h3 : s.toList = [46]
   ·rw [nameE_30 (by unfold nameOk; simp [h3])]
    clear k0 k47
    go_enter Tryz.func74,Tryz.ntmps74
    go_wp2_with fail
    go_ret
    exact ⟨rfl,rfl⟩
   ·have h3' : (s.toList == [46]) = false:=by simpa using h3
    by_cases h4 : s.toList = [46,46]
    ·rw [nameE_30 (by unfold nameOk; simp [h4])]
     clear k0 k47 h3'
     go_enter Tryz.func74,Tryz.ntmps74
     go_wp2_with fail
     go_ret
     exact ⟨rfl,rfl⟩
    ·have h4' : (s.toList == [46,46]) = false:=by simpa using h4
     by_cases h5 : 0 ≤ Lib.indexByte s.data.toList 0
     ·rw [nameE_30 (by unfold nameOk; rw [← k0]; simp [h5])]
      clear k0 k47
      go_enter Tryz.func74,Tryz.ntmps74
      go_wp2_with (go_at_call 91; refine (indexStr_any _ _ _).mono ?_; rintro e w1 ⟨rfl,rfl⟩)
      go_ret
      exact ⟨rfl,rfl⟩
     ·by_cases h6 : 0 ≤ Lib.indexByte s.data.toList 47
      ·rw [nameE_30 (by unfold nameOk; rw [← k47]; simp [h6])]
       clear k0 k47
       go_enter Tryz.func74,Tryz.ntmps74
       go_wp2_with (go_at_call 91; refine (indexStr_any _ _ _).mono ?_; rintro e w1 ⟨rfl,rfl⟩)
       go_ret
       exact ⟨rfl,rfl⟩
      ·rw [nameE_0 (by unfold nameOk; rw [← k0,← k47]; simp [h5,h6,h3,h4]; omega)]
       clear k0 k47
       go_enter Tryz.func74,Tryz.ntmps74
       go_wp2_with (go_at_call 91; refine (indexStr_any _ _ _).mono ?_; rintro e w1 ⟨rfl,rfl⟩)
       go_ret
       exact ⟨rfl,rfl⟩
end Go.Proofs.YtgajjphjkbnaeaaGreat
