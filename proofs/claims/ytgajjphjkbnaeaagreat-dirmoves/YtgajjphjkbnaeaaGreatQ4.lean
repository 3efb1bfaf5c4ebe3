/- IState, IArg, ISmall, IThing: in one text. -/
import Derived.Test.YtgajjphjkbnaeaaGreatQ1
import Derived.Deep.MidRow
import Derived.Great.BuildSlice
import Derived.ChangeKeysEq
import Derived.Laws.Rows
import Derived.Lib.SmallJoins
import Derived.Deep.Slices
import Derived.OpenShut
import Derived.WideShapes
import Derived.Test.YtgajjphjkbnaeaaGreatQ2
import Derived.BigQuiet
namespace Go.Proofs.YtgajjphjkbnaeaaGreat
open Go.RowKit
set_option linter.unusedVariables false
set_option maxHeartbeats 32000000
set_option maxRecDepth 100000
set_option linter.unusedSimpArgs false
structure It where
 kind : Int
 mode : Int
 links : Int
 size : Int
 lead : Int
 bytes : List Int
structure InoOk (k m l s : Int) : Prop where
 k0 : -9223372036854775808 ≤ k
 k1 : k ≤ 9223372036854775807
 m0 : -9223372036854775808 ≤ m
 m1 : m ≤ 9223372036854775807
 l0 : -9223372036854775808 ≤ l
 l1 : l ≤ 9223372036854775807
 s0 : -9223372036854775808 ≤ s
 s1 : s ≤ 9223372036854775807
def Ch (b : List Int) : Prop:=b.length = 32 ∧ Byt b
structure ItOk (x : It) : Prop where
 ino : InoOk x.kind x.mode x.links x.size
 t0 : 0 ≤ x.lead
 t1 : x.lead ≤ 4294967295
 ch : Ch x.bytes
def bytesV (b : List Int) : Array Value:=(b.map (Value.int .u8)).toArray
def zeroC : List Int:=List.replicate 32 0
def itC (x : It) : Array Value:=(Value.int .i64 x.kind :: Value.int .i64 x.mode :: Value.int .i64 x.links :: Value.int .i64 x.size :: Value.int .u32 x.lead :: x.bytes.map (Value.int .u8)).toArray
def it0 : It:=⟨0,0,0,0,0,zeroC⟩
theorem ch_zero : Ch zeroC:=⟨List.length_replicate,fun x hx => by rw [List.eq_of_mem_replicate hx]; omega⟩
theorem it0_ok : ItOk it0:=⟨⟨by decide,by decide,by decide,by decide,by decide,by decide,by decide,by decide⟩,by decide,by decide,ch_zero⟩
theorem bytesV_size (b : List Int) : (bytesV b).size = b.length:=by simp [bytesV]
theorem itC_size {x : It} (h : x.bytes.length = 32) : (itC x).size = 37:=by simp [itC,h]
theorem ch_eq {b : List Int} (h : b.length = 32) : b = (List.range 32).map fun i => b.getD i 0:=by
 apply List.ext_getElem
 ·simp [h]
 ·intro i h1 h2
  simp [List.getElem?_eq_getElem h1]
theorem one_bytes (b : List Int) : (bytesV b).all (·.oneCell') = true :=
 Array.all_eq_true_iff_forall_mem.2 (fun u hu => ints_oneCell .u8 b u (by simpa [bytesV] using hu))
theorem one_item (x : It) : (itC x).all (·.oneCell') = true:=by
 refine Array.all_eq_true_iff_forall_mem.2 (fun u hu => ?_)
 have hu' : u = Value.int .i64 x.kind ∨ u = Value.int .i64 x.mode ∨ u = Value.int .i64 x.links ∨ u = Value.int .i64 x.size ∨ u = Value.int .u32 x.lead ∨ u ∈ x.bytes.map (Value.int .u8):=by
  simpa only [itC,List.mem_toArray,List.mem_cons] using hu
 rcases hu' with rfl | rfl | rfl | rfl | rfl | hu'
 ·rfl
 ·rfl
 ·rfl
 ·rfl
 ·rfl
 ·exact ints_oneCell .u8 x.bytes u hu'
theorem eqItems_bytes (w : World) (d : Nat) (a b : List Int) : ∀ is : List Nat,(∀ i ∈ is,i < a.length ∧ i < b.length) →
  (Op.eqItems (d + 1) 5 1 (bytesV a) (bytesV b) is).run Tryz.prog w = .ok (is.all fun i => a.getD i 0 == b.getD i 0) w
 | [],_ => by simp [Op.eqItems]
 | i :: is,h => by
  obtain ⟨ha,hb⟩:=h i (by simp)
  have pa : (part 5 (bytesV a) (i * 1)).run Tryz.prog w = .ok (.int .u8 (a.getD i 0)) w:=run_part_plain w (by kernel_rfl) (by simp [bytesV,List.getElem?_eq_getElem ha])
  have pb : (part 5 (bytesV b) (i * 1)).run Tryz.prog w = .ok (.int .u8 (b.getD i 0)) w:=run_part_plain w (by kernel_rfl) (by simp [bytesV,List.getElem?_eq_getElem hb])
  have he : (Op.equalIn (d + 1) 5 (.int .u8 (a.getD i 0)) (.int .u8 (b.getD i 0))).run Tryz.prog w = .ok (a.getD i 0 == b.getD i 0) w:=run_equalIn_int w d 5 .u8 .u8 _ _ Tryz.underlying5
  have ih:=eqItems_bytes w d a b is (fun j hj => h j (by simp [hj]))
  simp only [Op.eqItems,Sem.run_bind,pa,pb,he,Result.andThen_ok,List.all_cons]
  cases hq : (a.getD i 0 == b.getD i 0)
  ·simp
  ·simpa using ih
theorem equal_chunks (w : World) (d : Nat) {a b : List Int} (ha : a.length = 32) (hb : b.length = 32) : (Op.equalIn (d + 2) 90 (.agg (bytesV a)) (.agg (bytesV b))).run Tryz.prog w = .ok (decide (a = b)) w:=by
 obtain ⟨i,hi⟩ : ∃ i,Tryz.prog.info? 5 = some i:=by
  obtain ⟨i,hi,_⟩:=info_parts Tryz.info5
  exact ⟨i,hi⟩
 rw [run_equalIn_array w (d + 1) _ _ (n:=32) (e:=5) (by kernel_rfl) hi,show Tryz.prog.cellsOf 5 = 1 from by kernel_rfl,eqItems_bytes w d a b (List.range 32) (fun i h => by have:=List.mem_range.1 h; rw [ha,hb]; exact ⟨this,this⟩)]
 have : ((List.range 32).all fun i => a.getD i 0 == b.getD i 0) = decide (a = b):=by
  rw [Bool.eq_iff_iff,List.all_eq_true,decide_eq_true_iff]
  refine ⟨fun h => ?_,fun h i _ => by rw [h]; simp⟩
  apply List.ext_getElem
  ·rw [ha,hb]
  ·intro i h1 h2
   have:=h i (by simp; rw [← ha]; exact h1)
   simpa [List.getElem?_eq_getElem h1,List.getElem?_eq_getElem h2] using this
 rw [this]
def inoEq (k m l s k' m' l' s' : Int) : Bool:=k == k' && m == m' && l == l' && s == s'
theorem equal_inodes (w : World) (d : Nat) (k m l s k' m' l' s' : Int) : (Op.equalIn (d + 2) 41 (.agg #[.int .i64 k,.int .i64 m,.int .i64 l,.int .i64 s]) (.agg #[.int .i64 k',.int .i64 m',.int .i64 l',.int .i64 s'])).run Tryz.prog w = .ok (inoEq k m l s k' m' l' s') w:=by
 have u3:=Tryz.underlying3
 have hS : Tryz.prog.underlying 41 = some (.struct (Tryz.prog.fieldsOf 41)):=by kernel_rfl
 have hp : Tryz.prog.stoodInHeld 41 = false:=by kernel_rfl
 rw [run_equalIn_agg w (d + 1) _ _ _ hS hp]
 simp only [Program.fieldsOf,Tryz.underlying41]
 go_simp
 unfold inoEq
 by_cases h1 : k = k' <;> by_cases h2 : m = m' <;> by_cases h3 : l = l' <;> by_cases h4 : s = s' <;> simp [h1,h2,h3,h4]
def itEq (x y : It) : Bool:=inoEq x.kind x.mode x.links x.size y.kind y.mode y.links y.size && x.lead == y.lead && decide (x.bytes = y.bytes)
theorem itEq_iff {x y : It} : itEq x y = true ↔ x = y:=by
 obtain ⟨k,m,l,s,t,b⟩:=x
 obtain ⟨k',m',l',s',t',b'⟩:=y
 simp only [itEq,inoEq,Bool.and_eq_true,beq_iff_eq,decide_eq_true_iff,It.mk.injEq]
 constructor
 ·rintro ⟨⟨⟨⟨⟨h1,h2⟩,h3⟩,h4⟩,h5⟩,h6⟩; exact ⟨h1,h2,h3,h4,h5,h6⟩
 ·rintro ⟨h1,h2,h3,h4,h5,h6⟩; exact ⟨⟨⟨⟨⟨h1,h2⟩,h3⟩,h4⟩,h5⟩,h6⟩
theorem part_ino (w : World) (x : It) : (part 41 (itC x) 0).run Tryz.prog w = .ok (.agg #[.int .i64 x.kind,.int .i64 x.mode,.int .i64 x.links,.int .i64 x.size]) w:=by
 obtain ⟨i,hi,hs⟩ : ∃ i,Tryz.prog.info? 41 = some i ∧ i.size = 4:=by
  have h : (Tryz.prog.info? 41).map (·.size) = some 4:=by kernel_rfl
  cases hq : Tryz.prog.info? 41 with
  | none => rw [hq] at h; cases h
  | some i => rw [hq] at h; exact ⟨i,rfl,by simpa using h⟩
 have he : (itC x).extract 0 4 = #[.int .i64 x.kind,.int .i64 x.mode,.int .i64 x.links,.int .i64 x.size]:=by
  apply Array.ext'; simp [itC]
 simp [part,isAgg,run_underlying Tryz.underlying41,sizeOf,typeInfo,hi,hs,he]
theorem part_lead (w : World) (x : It) : (part 30 (itC x) 4).run Tryz.prog w = .ok (.int .u32 x.lead) w:=by
 simp [part,isAgg,run_underlying Tryz.underlying30,itC]
theorem part_bytes (w : World) (x : It) (h : x.bytes.length = 32) : (part 90 (itC x) 5).run Tryz.prog w = .ok (.agg (bytesV x.bytes)) w:=by
 obtain ⟨i,hi,hs⟩ : ∃ i,Tryz.prog.info? 90 = some i ∧ i.size = 32:=by
  have h : (Tryz.prog.info? 90).map (·.size) = some 32:=by kernel_rfl
  cases hq : Tryz.prog.info? 90 with
  | none => rw [hq] at h; cases h
  | some i => rw [hq] at h; exact ⟨i,rfl,by simpa using h⟩
 have he : (itC x).extract 5 (5 + 32) = bytesV x.bytes:=by
  apply Array.ext'
  simp only [itC,bytesV,Array.toList_extract,List.extract_eq_take_drop]
  simp only [List.drop_succ_cons,List.drop_zero]
  exact List.take_of_length_le (by simp [h])
 simp [part,isAgg,run_underlying Tryz.underlying90,sizeOf,typeInfo,hi,hs,he]
theorem eqFields_cons (w : World) (d : Nat) (xs ys : Array Value) (f : Field) (fs : List Field) (a b : Value) (r : Bool) (hn : decide (f.name = "_") = false) (ha : (part f.type xs f.offset).run Tryz.prog w = .ok a w)
  (hb : (part f.type ys f.offset).run Tryz.prog w = .ok b w) (he : (Op.equalIn d f.type a b).run Tryz.prog w = .ok r w) :
  (Op.eqFields d xs ys (f :: fs)).run Tryz.prog w = if r then (Op.eqFields d xs ys fs).run Tryz.prog w else .ok false w:=by
 have hn' : f.name ≠ "_":=of_decide_eq_false hn
 simp only [Op.eqFields,Sem.run_bind,Sem.run_ite]
 rw [if_pos hn']
 simp only [ha,hb,he,Result.andThen_ok]
 cases r <;> simp
theorem equal_items (T : TypeId) (hS : Tryz.prog.underlying T = some (.struct (Tryz.prog.fieldsOf T))) (hp : Tryz.prog.stoodInHeld T = false)
  (hF : ((Tryz.prog.fieldsOf T).toList.map fun f => (f.type,f.offset,decide (f.name = "_"))) = [(41,0,false),(30,4,false),(90,5,false)])
  (w : World) (d : Nat) {x y : It} (hx : x.bytes.length = 32) (hy : y.bytes.length = 32) :
  (Op.equalIn (d + 3) T (.agg (itC x)) (.agg (itC y))).run Tryz.prog w = .ok (itEq x y) w:=by
 have u24:=Tryz.underlying30
 have a1:=part_ino w x
 have a2:=part_lead w x
 have a3:=part_bytes w x hx
 have b1:=part_ino w y
 have b2:=part_lead w y
 have b3:=part_bytes w y hy
 have e1:=equal_inodes w d x.kind x.mode x.links x.size y.kind y.mode y.links y.size
 have e3:=equal_chunks w d hx hy
 have e2 : (Op.equalIn (d + 2) 30 (.int .u32 x.lead) (.int .u32 y.lead)).run Tryz.prog w = .ok (x.lead == y.lead) w:=run_equalIn_int w (d + 1) 30 .u32 .u32 _ _ u24
 rw [run_equalIn_agg w (d + 2) _ _ _ hS hp]
 generalize (Tryz.prog.fieldsOf T).toList = L at hF
 have hl : L.length = 3:=by have:=congrArg List.length hF; simpa using this
 match L,hl,hF with
 | [f0,f1,f2],_,hF =>
  simp only [List.map_cons,List.map_nil,List.cons.injEq,Prod.mk.injEq,and_true] at hF
  obtain ⟨⟨t0,o0,n0⟩,⟨t1,o1,n1⟩,t2,o2,n2⟩:=hF
  rw [eqFields_cons w (d + 2) _ _ f0 _ _ _ _ n0 (by rw [t0,o0]; exact a1) (by rw [t0,o0]; exact b1) (by rw [t0]; exact e1)]
  rw [eqFields_cons w (d + 2) _ _ f1 _ _ _ _ n1 (by rw [t1,o1]; exact a2) (by rw [t1,o1]; exact b2) (by rw [t1]; exact e2)]
  rw [eqFields_cons w (d + 2) _ _ f2 _ _ _ _ n2 (by rw [t2,o2]; exact a3) (by rw [t2,o2]; exact b3) (by rw [t2]; exact e3)]
  unfold itEq
  simp only [Op.eqFields,Sem.run_pure]
  cases inoEq x.kind x.mode x.links x.size y.kind y.mode y.links y.size <;> cases (x.lead == y.lead) <;> cases decide (x.bytes = y.bytes) <;> rfl
def wid (p : Int) : Int:=if p = 1 then 6 else if p = 2 then 4 else if p = 3 then 32 else 0
theorem wid_0 {p : Int} (h1 : p ≠ 1) (h2 : p ≠ 2) (h3 : p ≠ 3) : wid p = 0:=by unfold wid; rw [if_neg h1,if_neg h2,if_neg h3]
theorem wid_cases (p : Int) : (p = 1 ∧ wid p = 6) ∨ (p = 2 ∧ wid p = 4) ∨ (p = 3 ∧ wid p = 32) ∨ (p ≠ 1 ∧ p ≠ 2 ∧ p ≠ 3 ∧ wid p = 0):=by
 by_cases h1 : p = 1
 ·subst h1; exact .inl ⟨rfl,rfl⟩
 ·by_cases h2 : p = 2
  ·subst h2; exact .inr (.inl ⟨rfl,rfl⟩)
  ·by_cases h3 : p = 3
   ·subst h3; exact .inr (.inr (.inl ⟨rfl,rfl⟩))
   ·exact .inr (.inr (.inr ⟨h1,h2,h3,wid_0 h1 h2 h3⟩))
theorem widthOf_any (w : World) (p : Int) : Calls Tryz.prog 113 #[.int .i64 p] w fun e w' => e = .returned (.int .i64 (wid p)) ∧ w = w':=by
 rcases wid_cases p with ⟨rfl,hw⟩ | ⟨rfl,hw⟩ | ⟨rfl,hw⟩ | ⟨h1,h2,h3,hw⟩
 ·rw [hw]; clear hw
  go_enter Tryz.func113,Tryz.ntmps113
  go_wp2
  go_ret
  exact ⟨rfl,rfl⟩
 ·rw [hw]; clear hw
  go_enter Tryz.func113,Tryz.ntmps113
  go_wp2
  go_ret
  exact ⟨rfl,rfl⟩
 ·rw [hw]; clear hw
  go_enter Tryz.func113,Tryz.ntmps113
  go_wp2
  go_ret
  exact ⟨rfl,rfl⟩
 ·rw [hw]; clear hw
  go_enter Tryz.func113,Tryz.ntmps113
  go_wp2
  go_ret
  exact ⟨rfl,rfl⟩
def inB (n a b : Int) : Bool:=decide (a ≤ n) && decide (n ≤ b)
theorem within_any (w : World) (n a b : Int) : Calls Tryz.prog 97 #[.int .i64 n,.int .i64 a,.int .i64 b] w fun e w' => e = .returned (.bool (inB n a b)) ∧ w = w':=by
 unfold inB
 by_cases h1 : a ≤ n
 ·by_cases h2 : n ≤ b
  ·go_enter Tryz.func97,Tryz.ntmps97
   go_wp2
   go_ret
   exact ⟨by simp [h1,h2],rfl⟩
  ·go_enter Tryz.func97,Tryz.ntmps97
   go_wp2
   go_ret
   exact ⟨by simp [h2],rfl⟩
 ·go_enter Tryz.func97,Tryz.ntmps97
  go_wp2
  go_ret
  exact ⟨by rw [decide_eq_false (show ¬ a ≤ n by omega)]; rfl,rfl⟩
def inoOk (k m l s : Int) : Bool:=inB m 0 511 && (if k = 1 then inB l 1 15 && inB s 0 512 else if k = 2 then l == 1 && s == 0 else false)
def inoE (k m l s : Int) : Int:=if inoOk k m l s then 0 else 11
theorem inoE_0 {k m l s : Int} (h : inoOk k m l s = true) : inoE k m l s = 0:=by unfold inoE; rw [h]; rfl
theorem inoE_11 {k m l s : Int} (h : inoOk k m l s = false) : inoE k m l s = 11:=by unfold inoE; rw [h]; rfl
theorem imayBe_any (w : World) (k m l s : Int) : Calls Tryz.prog 84 #[.agg #[.int .i64 k,.int .i64 m,.int .i64 l,.int .i64 s]] w fun e w' => e = .returned (.bool (inoOk k m l s)) ∧ Below w.heap.size w w':=by
 have hB : ∀ o,Below w.heap.size w (w.alloc o):=fun o => (Below.refl _ w).alloc (Nat.le_refl _) o
 cases h1 : inB m 0 511 with
 | false =>
  have c1 : ∀ W,Calls Tryz.prog 97 #[.int .i64 m,.int .i64 0,.int .i64 511] W fun e w' => e = .returned (.bool false) ∧ W = w':=fun W => by have:=within_any W m 0 511; rwa [h1] at this
  rw [show inoOk k m l s = false from by unfold inoOk; rw [h1]; rfl]
  clear h1
  go_enter Tryz.func84,Tryz.ntmps84
  go_wp2_with fail
  refine (c1 _).mono ?_
  rintro e w' ⟨rfl,rfl⟩
  go_wp2_with fail
  go_ret
  exact ⟨rfl,hB _⟩
 | true =>
  have c1 : ∀ W,Calls Tryz.prog 97 #[.int .i64 m,.int .i64 0,.int .i64 511] W fun e w' => e = .returned (.bool true) ∧ W = w':=fun W => by have:=within_any W m 0 511; rwa [h1] at this
  by_cases hk1 : k = 1
  ·subst hk1
   cases h2 : inB l 1 15 with
   | false =>
    have c2 : ∀ W,Calls Tryz.prog 97 #[.int .i64 l,.int .i64 1,.int .i64 15] W fun e w' => e = .returned (.bool false) ∧ W = w':=fun W => by have:=within_any W l 1 15; rwa [h2] at this
    rw [show inoOk 1 m l s = false from by unfold inoOk; rw [h1,h2]; rfl]
    clear h1 h2
    go_enter Tryz.func84,Tryz.ntmps84
    go_wp2_with fail
    refine (c1 _).mono ?_
    rintro e w' ⟨rfl,rfl⟩
    go_wp2_with fail
    refine (c2 _).mono ?_
    rintro e w' ⟨rfl,rfl⟩
    go_wp2_with fail
    go_ret
    exact ⟨rfl,hB _⟩
   | true =>
    have c2 : ∀ W,Calls Tryz.prog 97 #[.int .i64 l,.int .i64 1,.int .i64 15] W fun e w' => e = .returned (.bool true) ∧ W = w':=fun W => by have:=within_any W l 1 15; rwa [h2] at this
    have c3:=fun W => within_any W s 0 512
    rw [show inoOk 1 m l s = inB s 0 512 from by unfold inoOk; rw [h1,h2]; simp]
    clear h1 h2
    generalize inB s 0 512 = b at *
    go_enter Tryz.func84,Tryz.ntmps84
    go_wp2_with fail
    refine (c1 _).mono ?_
    rintro e w' ⟨rfl,rfl⟩
    go_wp2_with fail
    refine (c2 _).mono ?_
    rintro e w' ⟨rfl,rfl⟩
    go_wp2_with fail
    refine (c3 _).mono ?_
    rintro e w' ⟨rfl,rfl⟩
    go_wp2_with fail
    go_ret
    exact ⟨rfl,hB _⟩
  ·by_cases hk2 : k = 2
   ·subst hk2
    by_cases h3 : l = 1
    ·subst h3
     rw [show inoOk 2 m 1 s = (s == 0) from by unfold inoOk; rw [h1]; simp]
     clear h1 hk1
     go_enter Tryz.func84,Tryz.ntmps84
     go_wp2_with fail
     refine (c1 _).mono ?_
     rintro e w' ⟨rfl,rfl⟩
     go_wp2_with fail
     go_ret
     exact ⟨rfl,hB _⟩
    ·rw [show inoOk 2 m l s = false from by unfold inoOk; rw [h1]; simp [h3]]
     clear h1 hk1
     go_enter Tryz.func84,Tryz.ntmps84
     go_wp2_with fail
     refine (c1 _).mono ?_
     rintro e w' ⟨rfl,rfl⟩
     go_wp2_with fail
     go_ret
     exact ⟨rfl,hB _⟩
   ·rw [show inoOk k m l s = false from by unfold inoOk; rw [h1,if_neg hk1,if_neg hk2]; rfl]
    clear h1
    go_enter Tryz.func84,Tryz.ntmps84
    go_wp2_with fail
    refine (c1 _).mono ?_
    rintro e w' ⟨rfl,rfl⟩
    go_wp2_with fail
    go_ret
    exact ⟨rfl,hB _⟩
theorem checkInode_any (w : World) (k m l s : Int) : Calls Tryz.prog 68 #[.agg #[.int .i64 k,.int .i64 m,.int .i64 l,.int .i64 s]] w fun e w' => e = .returned (.int .i64 (inoE k m l s)) ∧ Below w.heap.size w w':=by
 have hB : ∀ o,Below w.heap.size w (w.alloc o):=fun o => (Below.refl _ w).alloc (Nat.le_refl _) o
 cases h : inoOk k m l s with
 | false =>
  rw [inoE_11 h]
  go_enter Tryz.func68,Tryz.ntmps68
  go_wp2_with fail
  refine (imayBe_any _ _ _ _ _).mono ?_
  rintro e w1 ⟨rfl,hb1⟩
  rw [h]
  clear h
  go_wp2
  go_ret
  exact ⟨rfl,(hB _).trans (hb1.mono (hB _).size)⟩
 | true =>
  rw [inoE_0 h]
  go_enter Tryz.func68,Tryz.ntmps68
  go_wp2_with fail
  refine (imayBe_any _ _ _ _ _).mono ?_
  rintro e w1 ⟨rfl,hb1⟩
  rw [h]
  go_wp2
  go_ret
  exact ⟨rfl,(hB _).trans (hb1.mono (hB _).size)⟩
theorem fixE_in (n : Int) (k : Nat) (h1 : 1 ≤ k) (h2 : k ≤ 8) (h0 : 0 ≤ n) (hn : n < 2 ^ (8 * k)) : fixE n k = 0:=by
 unfold fixE
 rw [if_neg (by omega),Int.toNat_natCast]
 have : ((n : Int) / 2 ^ (8 * k) != 0) = false:=by
  rw [bne_eq_false_iff_eq]
  exact Int.ediv_eq_zero_of_lt h0 hn
 rw [this]; rfl
theorem fixL_in (n : Int) (k : Nat) (h1 : 1 ≤ k) (h2 : k ≤ 8) (h0 : 0 ≤ n) (hn : n < 2 ^ (8 * k)) : fixL n k = fixB n.toNat k:=by
 unfold fixL; rw [if_pos (fixE_in n k h1 h2 h0 hn)]; rfl
theorem numberI_any (w : World) (v : Value) (xs : List Int) (h : Rd w v xs) (hy : Byt xs) (hl : 1 ≤ xs.length) (hl8 : xs.length ≤ 8) : Calls Tryz.prog 131 #[v] w fun e w' => e = .returned (.int .u64 (valB xs)) ∧ w = w':=by
 have e1 : numE xs xs.length = 0:=by unfold numE; rw [if_neg (by omega),if_neg (by omega)]
 have e2 : numV xs xs.length = valB xs:=by unfold numV; rw [e1]; simp
 have hlen:=h.len
 go_enter Tryz.func131,Tryz.ntmps131
 go_wp2_with fail
 refine (number_any _ _ xs xs.length h hy).mono ?_
 rintro e w1 ⟨rfl,rfl⟩
 rw [e1,e2]
 go_wp2
 go_ret
 exact ⟨rfl,rfl⟩
structure ItAt (T : TypeId) (w : World) (g : Nat) (x : It) : Prop where
 row : w.heap[g]? = some (.cells (itC x) T (0,0))
theorem ItAt.lt {T : TypeId} {w : World} {g : Nat} {x : It} (h : ItAt T w g x) : g < w.heap.size:=(Array.getElem?_eq_some_iff.1 h.row).1
theorem ItAt.below {T : TypeId} {w w' : World} {g : Nat} {x : It} (h : ItAt T w g x) (hb : Below w.heap.size w w') : ItAt T w' g x:=⟨(hb.block g h.lt).trans h.row⟩
theorem ItAt.laid (T : TypeId) (w : World) (x : It) : ItAt T (w.alloc (.cells (itC x) T)) w.heap.size x:=⟨heap_alloc_new w _⟩
theorem ItAt.cell {T : TypeId} {w : World} {g : Nat} {x : It} (h : ItAt T w g x) (j : Nat) (v : Value) (hv : (itC x)[j]? = some v) : w.cell? ⟨g,j,none⟩ = some v:=by
 rw [cell_of_row w g j _ _ (0,0) h.row]; exact hv
theorem ItAt.c0 {T : TypeId} {w : World} {g : Nat} {x : It} (h : ItAt T w g x) : w.cell? ⟨g,0,none⟩ = some (.int .i64 x.kind):=h.cell 0 _ rfl
theorem ItAt.c1 {T : TypeId} {w : World} {g : Nat} {x : It} (h : ItAt T w g x) : w.cell? ⟨g,1,none⟩ = some (.int .i64 x.mode):=h.cell 1 _ rfl
theorem ItAt.c2 {T : TypeId} {w : World} {g : Nat} {x : It} (h : ItAt T w g x) : w.cell? ⟨g,2,none⟩ = some (.int .i64 x.links):=h.cell 2 _ rfl
theorem ItAt.c3 {T : TypeId} {w : World} {g : Nat} {x : It} (h : ItAt T w g x) : w.cell? ⟨g,3,none⟩ = some (.int .i64 x.size):=h.cell 3 _ rfl
theorem ItAt.c4 {T : TypeId} {w : World} {g : Nat} {x : It} (h : ItAt T w g x) : w.cell? ⟨g,4,none⟩ = some (.int .u32 x.lead):=h.cell 4 _ rfl
theorem ItAt.range {T : TypeId} {w : World} {g : Nat} {x : It} (h : ItAt T w g x) : w.rangeAt g 5 (x.bytes.map (Value.int .u8)):=by
 intro j v hv
 refine h.cell (5 + j) v ?_
 rw [Nat.add_comm]
 simpa [itC] using hv
theorem ItAt.rangeI {T : TypeId} {w : World} {g : Nat} {x : It} (h : ItAt T w g x) : w.rangeAt g 0 [.int .i64 x.kind,.int .i64 x.mode,.int .i64 x.links,.int .i64 x.size]:=by
 intro j v hv
 rw [Nat.zero_add]
 match j,hv with
 | 0,hv => cases hv; exact h.c0
 | 1,hv => cases hv; exact h.c1
 | 2,hv => cases hv; exact h.c2
 | 3,hv => cases hv; exact h.c3
theorem below_setRow {B : Nat} {w0 w : World} {g : Nat} (hb : Below B w0 w) (hg : B ≤ g) (cs : Array Value) : Below B w0 (w.setRow g cs):=by
 refine ⟨hb.os,hb.tape,hb.output,by simpa [World.setRow] using hb.size,fun k hk => ?_⟩
 rw [← hb.block k hk]
 simp only [World.setRow,Array.getElem?_modify]
 rw [if_neg (by omega)]
theorem ItAt.setRow {T : TypeId} {w : World} {g : Nat} {x : It} (h : ItAt T w g x) (y : It) : ItAt T (w.setRow g (itC y)) g y:=⟨setRow_heap w g _ _ _ _ h.row⟩
theorem size_item : (Tryz.prog.info? 128).map (·.size) = some 37:=by kernel_rfl
theorem size_chunk : (Tryz.prog.info? 90).map (·.size) = some 32:=by kernel_rfl
theorem size_data : (Tryz.prog.info? 241).map (·.size) = some 32:=by kernel_rfl
theorem size_inode : (Tryz.prog.info? 41).map (·.size) = some 4:=by kernel_rfl
theorem ret_item {fn : Func} {R : Ending → World → Prop} {a : Act} {w : World} {p : Tmp} (h : fn.results = #[.cell p 128]) (g : Nat) (x : It) (hx : x.bytes.length = 32) (hp : a.tmps.getD p undef = .pointer (some ⟨g,0,none⟩))
  (hg : ItAt 128 w g x) (hd : a.defers = []) (hR : R (.returned (.agg (itC x))) w) : bodyPost Tryz.prog fn R .ret a w :=
 bodyPost_ret (results_cell_row h a.tmps w g _ (itC x) _ _ hp hg.row Tryz.underlying128 rfl (by rw [itC_size hx]; exact size_item)) hd hR
theorem ret_item2 {fn : Func} {R : Ending → World → Prop} {a : Act} {w : World} {p u : Tmp} (h : fn.results = #[.cell p 128,.tmp u]) (g : Nat) (x : It) (hx : x.bytes.length = 32) (hp : a.tmps.getD p undef = .pointer (some ⟨g,0,none⟩)) (v : Value) (hu : a.tmps.getD u undef = v)
  (hg : ItAt 128 w g x) (hd : a.defers = []) (hR : R (.returned (.tuple #[.agg (itC x),v])) w) : bodyPost Tryz.prog fn R .ret a w:=by
 refine bodyPost_ret ?_ hd hR
 have hp' : a.tmps[p]?.getD undef = .pointer (some ⟨g,0,none⟩):=by simpa using hp
 have hu' : a.tmps[u]?.getD undef = v:=by simpa using hu
 have hl:=run_loadVar_row (P:=Tryz.prog) w g _ 128 (itC x) _ _ hg.row Tryz.underlying128 rfl (by rw [itC_size hx]; exact size_item)
 simp [results,h,hp',hu',asAddr,hl,Result.andThen]
theorem zeroItem (w : World) : (zeroValue 128).run Tryz.prog w = .ok (.agg (itC it0)) w:=by
 have h : (Tryz.prog.info? 128).map (fun i => (i.zero,i.size)) = some (some (.agg (itC it0)),37):=by kernel_rfl
 exact (zero_of_info h).1 w
theorem zeroData (w : World) : (zeroValue 241).run Tryz.prog w = .ok (.agg (bytesV zeroC)) w:=by
 have h : (Tryz.prog.info? 241).map (fun i => (i.zero,i.size)) = some (some (.agg (bytesV zeroC)),32):=by kernel_rfl
 exact (zero_of_info h).1 w
def thV (p : Int) (x : It) : Value :=
 if p = 1 then .iface 239 (.agg #[.int .i64 x.kind,.int .i64 x.mode,.int .i64 x.links,.int .i64 x.size])
 else if p = 2 then .iface 240 (.int .u32 x.lead)
 else .iface 241 (.agg (bytesV x.bytes))
theorem thV_1 (x : It) : thV 1 x = .iface 239 (.agg #[.int .i64 x.kind,.int .i64 x.mode,.int .i64 x.links,.int .i64 x.size]):=rfl
theorem thV_2 (x : It) : thV 2 x = .iface 240 (.int .u32 x.lead):=rfl
theorem thV_3 {p : Int} (h1 : p ≠ 1) (h2 : p ≠ 2) (x : It) : thV p x = .iface 241 (.agg (bytesV x.bytes)):=by unfold thV; rw [if_neg h1,if_neg h2]
end Go.Proofs.YtgajjphjkbnaeaaGreat
