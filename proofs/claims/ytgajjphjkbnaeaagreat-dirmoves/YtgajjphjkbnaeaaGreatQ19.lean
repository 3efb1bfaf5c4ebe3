/- IGive: in one text. -/
import Derived.Test.YtgajjphjkbnaeaaGreatQ4
namespace Go.Proofs.YtgajjphjkbnaeaaGreat
open Go.RowKit
set_option linter.unusedVariables false
set_option maxHeartbeats 32000000
set_option maxRecDepth 100000
set_option linter.unusedSimpArgs false
def giveI (p : Int) (x : It) : It:=if p = 1 then ⟨x.kind,x.mode,x.links,x.size,0,zeroC⟩ else if p = 2 then ⟨0,0,0,0,x.lead,zeroC⟩ else ⟨0,0,0,0,0,x.bytes⟩
theorem giveI_1 (x : It) : giveI 1 x = ⟨x.kind,x.mode,x.links,x.size,0,zeroC⟩:=rfl
theorem giveI_2 (x : It) : giveI 2 x = ⟨0,0,0,0,x.lead,zeroC⟩:=rfl
theorem giveI_3 {p : Int} (h1 : p ≠ 1) (h2 : p ≠ 2) (x : It) : giveI p x = ⟨0,0,0,0,0,x.bytes⟩:=by unfold giveI; rw [if_neg h1,if_neg h2]
theorem as_yes (T : TypeId) (d : TypeDesc) (hd : Tryz.prog.underlying T = some d) (hi : (match d with | .interface _ => false | _ => true) = true) (v : Value) (w : World) : (Instr.typeAssert (.iface T v) 219 T true).run Tryz.prog w = .ok (.tuple #[v,.bool true]) w:=by
 cases d <;> simp_all [Instr.typeAssert,run_underlying hd]
theorem as_no (S T : TypeId) (h : S ≠ T) (d : TypeDesc) (hd : Tryz.prog.underlying T = some d) (hi : (match d with | .interface _ => false | _ => true) = true) (z : Value) (hz : ∀ w,(zeroValue T).run Tryz.prog w = .ok z w) (v : Value) (w : World) :
  (Instr.typeAssert (.iface S v) 219 T true).run Tryz.prog w = .ok (.tuple #[z,.bool false]) w:=by
 cases d <;> simp_all [Instr.typeAssert,run_underlying hd]
theorem zeroRecord (w : World) : (zeroValue 239).run Tryz.prog w = .ok (.agg #[.int .i64 0,.int .i64 0,.int .i64 0,.int .i64 0]) w:=by
 have h : (Tryz.prog.info? 239).map (fun i => (i.zero,i.size)) = some (some (.agg #[.int .i64 0,.int .i64 0,.int .i64 0,.int .i64 0]),4):=by kernel_rfl
 exact (zero_of_info h).1 w
theorem zeroEntry (w : World) : (zeroValue 240).run Tryz.prog w = .ok (.int .u32 0) w:=by
 have h : (Tryz.prog.info? 240).map (fun i => (i.zero,i.size)) = some (some (.int .u32 0),1):=by kernel_rfl
 exact (zero_of_info h).1 w
theorem as_rr (v : Value) (w : World) : (Instr.typeAssert (.iface 239 v) 219 239 true).run Tryz.prog w = .ok (.tuple #[v,.bool true]) w:=as_yes _ _ Tryz.underlying239 rfl v w
theorem as_ee (v : Value) (w : World) : (Instr.typeAssert (.iface 240 v) 219 240 true).run Tryz.prog w = .ok (.tuple #[v,.bool true]) w:=as_yes _ _ Tryz.underlying240 rfl v w
theorem as_dd (v : Value) (w : World) : (Instr.typeAssert (.iface 241 v) 219 241 true).run Tryz.prog w = .ok (.tuple #[v,.bool true]) w:=as_yes _ _ Tryz.underlying241 rfl v w
theorem as_er (v : Value) (w : World) : (Instr.typeAssert (.iface 240 v) 219 239 true).run Tryz.prog w = .ok (.tuple #[.agg #[.int .i64 0,.int .i64 0,.int .i64 0,.int .i64 0],.bool false]) w:=as_no _ _ (by decide) _ Tryz.underlying239 rfl _ zeroRecord v w
theorem as_dr (v : Value) (w : World) : (Instr.typeAssert (.iface 241 v) 219 239 true).run Tryz.prog w = .ok (.tuple #[.agg #[.int .i64 0,.int .i64 0,.int .i64 0,.int .i64 0],.bool false]) w:=as_no _ _ (by decide) _ Tryz.underlying239 rfl _ zeroRecord v w
theorem as_de (v : Value) (w : World) : (Instr.typeAssert (.iface 241 v) 219 240 true).run Tryz.prog w = .ok (.tuple #[.int .u32 0,.bool false]) w:=as_no _ _ (by decide) _ Tryz.underlying240 rfl _ zeroEntry v w
theorem built_inode (k m l s : Int) : Tryz.prog.built 128 [(0,.agg #[.int .i64 k,.int .i64 m,.int .i64 l,.int .i64 s])] = some (itC ⟨k,m,l,s,0,zeroC⟩):=by kernel_rfl
theorem built_lead (t : Int) : Tryz.prog.built 128 [(1,.int .u32 t)] = some (itC ⟨0,0,0,0,t,zeroC⟩):=by kernel_rfl
theorem built_chunk {b : List Int} (hb : b.length = 32) : Tryz.prog.built 128 [(2,.agg (bytesV b))] = some (itC ⟨0,0,0,0,0,b⟩):=by
 have h : ∀ f : Nat → Int,Tryz.prog.built 128 [(2,.agg (bytesV ((List.range 32).map f)))] = some (itC ⟨0,0,0,0,0,(List.range 32).map f⟩):=by intro f; kernel_rfl
 rw [ch_eq hb]; exact h _
theorem wpList_storeI {w : World} {ops : Array Oper} {rest : List Oper} {o : Oper} {a : Act} {Q : Exit → Act → World → Prop} (hg : o.guard = none) (x y : Operand) (ho : o.op = .store 128 x y)
  (g : Nat) (z old : It) (hx : a.eval x = .pointer (some ⟨g,0,none⟩)) (hy : a.eval y = .agg (itC z)) (hz : z.bytes.length = 32) (hold : old.bytes.length = 32) (hat : ItAt 128 w g old)
  (h : wpList Tryz.prog ops Q rest (a.put o.dst undef) (w.setRow g (itC z))) : wpList Tryz.prog ops Q (o :: rest) a w :=
 wpList_store_row hg 128 x y ho g (itC z) hx hy 128 (itC old) hat.row (by rw [itC_size hz]; exact size_item) (by rw [itC_size hz,itC_size hold]) (one_item z) h
theorem wpList_storeD {w : World} {ops : Array Oper} {rest : List Oper} {o : Oper} {a : Act} {Q : Exit → Act → World → Prop} (hg : o.guard = none) (x y : Operand) (ho : o.op = .store 241 x y)
  (hx : a.eval x = .pointer (some ⟨w.heap.size,0,none⟩)) (c old : List Int) (hy : a.eval y = .agg (bytesV c)) (hc : c.length = 32) (hold : old.length = 32)
  (h : wpList Tryz.prog ops Q rest (a.put o.dst undef) (w.alloc (.cells (bytesV c) 241))) : wpList Tryz.prog ops Q (o :: rest) a (w.alloc (.cells (bytesV old) 241)):=by
 refine wpList_store_row hg 241 x y ho w.heap.size (bytesV c) hx hy 241 (bytesV old) (heap_alloc_new w _) (by rw [bytesV_size,hc]; exact size_data) (by rw [bytesV_size,bytesV_size,hc,hold]) (one_bytes c) ?_
 rw [World.setRow_alloc_new]; exact h
theorem ibuildBy {ops : Array Oper} {rest : List Oper} {o : Oper} {a : Act} {w : World} {Q : Exit → Act → World → Prop} (hg : o.guard = none) (t : TypeId) (parts : Array (Nat × Operand)) (ho : o.op = .build t parts)
  (d : Option Tmp) (hd : o.dst = d) (vs : List (Nat × Value)) (hp : (parts.map fun (i,x) => (i,a.eval x)).toList = vs) (cells : Array Value) (hf : Tryz.prog.built t vs = some cells)
  (h : wpList Tryz.prog ops Q rest (a.put d (.agg cells)) w) : wpList Tryz.prog ops Q (o :: rest) a w :=
 wpList_buildTo hg t parts ho d hd cells (by rw [hp]; exact hf) h
theorem give_1 (w : World) (x : It) : Calls Tryz.prog 116 #[.iface 239 (.agg #[.int .i64 x.kind,.int .i64 x.mode,.int .i64 x.links,.int .i64 x.size])] w fun e w' => e = .returned (.agg (itC (giveI 1 x))) ∧ Below w.heap.size w w':=by
 have hz:=zeroItem
 have hrr:=as_rr
 obtain ⟨w1,hw1⟩ : ∃ w1,w.alloc (.cells (itC it0) 128) = w1:=⟨_,rfl⟩
 have hB : Below w.heap.size w w1:=by rw [← hw1]; exact (Below.refl _ w).alloc (Nat.le_refl _) _
 have hat : ItAt 128 w1 w.heap.size it0:=by rw [← hw1]; exact ItAt.laid _ w it0
 obtain ⟨k,m,l,s,t,b⟩:=x
 rw [giveI_1]
 dsimp only
 have H2 : ∀ o,ItAt 128 (w1.alloc o) w.heap.size it0:=fun o => hat.below ((Below.refl _ _).alloc (Nat.le_refl _) o)
 go_enter Tryz.func116,Tryz.ntmps116
 go_wp2_with (first
  | (refine ibuildBy rfl 128 _ rfl _ rfl [(0,.agg #[.int .i64 k,.int .i64 m,.int .i64 l,.int .i64 s])] (by kernel_rfl) (itC ⟨k,m,l,s,0,zeroC⟩) (built_inode _ _ _ _) ?_)
  | (refine wpList_storeI rfl _ _ rfl w.heap.size ⟨k,m,l,s,0,zeroC⟩ it0 rfl rfl ch_zero.1 ch_zero.1 (H2 _) ?_))
 refine ret_item rfl w.heap.size ⟨k,m,l,s,0,zeroC⟩ ch_zero.1 rfl ((H2 _).setRow _) rfl ⟨rfl,?_⟩
 exact below_setRow (hB.alloc hB.size _) (Nat.le_refl _) _
theorem give_2 (w : World) (x : It) : Calls Tryz.prog 116 #[.iface 240 (.int .u32 x.lead)] w fun e w' => e = .returned (.agg (itC (giveI 2 x))) ∧ Below w.heap.size w w':=by
 have hz:=zeroItem
 have hee:=as_ee
 have her:=as_er
 obtain ⟨w1,hw1⟩ : ∃ w1,w.alloc (.cells (itC it0) 128) = w1:=⟨_,rfl⟩
 have hB : Below w.heap.size w w1:=by rw [← hw1]; exact (Below.refl _ w).alloc (Nat.le_refl _) _
 have hat : ItAt 128 w1 w.heap.size it0:=by rw [← hw1]; exact ItAt.laid _ w it0
 obtain ⟨k,m,l,s,t,b⟩:=x
 rw [giveI_2]
 dsimp only
 go_enter Tryz.func116,Tryz.ntmps116
 go_wp2_with (first
  | (refine ibuildBy rfl 128 _ rfl _ rfl [(1,.int .u32 t)] (by kernel_rfl) (itC ⟨0,0,0,0,t,zeroC⟩) (built_lead _) ?_)
  | (refine wpList_storeI rfl _ _ rfl w.heap.size ⟨0,0,0,0,t,zeroC⟩ it0 rfl rfl ch_zero.1 ch_zero.1 hat ?_))
 refine ret_item rfl w.heap.size ⟨0,0,0,0,t,zeroC⟩ ch_zero.1 rfl (hat.setRow _) rfl ⟨rfl,?_⟩
 exact below_setRow hB (Nat.le_refl _) _
theorem give_3 (w : World) (x : It) (hx : x.bytes.length = 32) : Calls Tryz.prog 116 #[.iface 241 (.agg (bytesV x.bytes))] w fun e w' => e = .returned (.agg (itC (giveI 3 x))) ∧ Below w.heap.size w w':=by
 have hz:=zeroItem
 have hzd:=zeroData
 have hdd:=as_dd
 have hde:=as_de
 have hdr:=as_dr
 obtain ⟨w1,hw1⟩ : ∃ w1,w.alloc (.cells (itC it0) 128) = w1:=⟨_,rfl⟩
 have hB : Below w.heap.size w w1:=by rw [← hw1]; exact (Below.refl _ w).alloc (Nat.le_refl _) _
 have hat : ItAt 128 w1 w.heap.size it0:=by rw [← hw1]; exact ItAt.laid _ w it0
 obtain ⟨k,m,l,s,t,b⟩:=x
 rw [giveI_3 (by decide) (by decide)]
 dsimp only at hx ⊢
 have HZ : Hid (zeroC.length = 32):=ch_zero.1
 have HX : Hid (b.length = 32):=hx
 have HD : Hid ((Tryz.prog.info? 241).map (·.size) = some (bytesV b).size):=by unfold Hid; rw [bytesV_size,hx]; exact size_data
 have H2 : ∀ o,ItAt 128 (w1.alloc o) w.heap.size it0:=fun o => hat.below ((Below.refl _ _).alloc (Nat.le_refl _) o)
 clear hx
 go_enter Tryz.func116,Tryz.ntmps116
 go_wp2_with (first
  | (refine wpList_storeD rfl _ _ rfl rfl b zeroC rfl HX.out HZ.out ?_)
  | (refine wpList_load_row rfl 241 _ rfl w1.heap.size rfl 241 (bytesV b) (0,0) _ (heap_alloc_new w1 _) Tryz.underlying241 rfl HD.out ?_)
  | (refine ibuildBy rfl 128 _ rfl _ rfl [(2,.agg (bytesV b))] (by kernel_rfl) (itC ⟨0,0,0,0,0,b⟩) (built_chunk HX.out) ?_)
  | (refine wpList_storeI rfl _ _ rfl w.heap.size ⟨0,0,0,0,0,b⟩ it0 rfl rfl HX.out HZ.out (H2 _) ?_))
 refine ret_item rfl w.heap.size ⟨0,0,0,0,0,b⟩ HX.out rfl ((H2 _).setRow _) rfl ⟨rfl,?_⟩
 exact below_setRow (hB.alloc hB.size _) (Nat.le_refl _) _
theorem give_any (w : World) (p : Int) (x : It) (hx : ItOk x) : Calls Tryz.prog 116 #[thV p x] w fun e w' => e = .returned (.agg (itC (giveI p x))) ∧ Below w.heap.size w w':=by
 by_cases h1 : p = 1
 ·subst h1; exact give_1 w x
 ·by_cases h2 : p = 2
  ·subst h2; exact give_2 w x
  ·rw [thV_3 h1 h2,giveI_3 h1 h2]
   have:=give_3 w x hx.ch.1
   rwa [giveI_3 (by decide) (by decide)] at this
def standsB (p : Int) (x : It) : Bool:=if p = 1 then inoOk x.kind x.mode x.links x.size else if p = 2 then x.lead != 0 else true
theorem stands_1 (x : It) : standsB 1 x = inoOk x.kind x.mode x.links x.size:=rfl
theorem stands_2 (x : It) : standsB 2 x = (x.lead != 0):=rfl
theorem stands_3 {p : Int} (h1 : p ≠ 1) (h2 : p ≠ 2) (x : It) : standsB p x = true:=by unfold standsB; rw [if_neg h1,if_neg h2]
theorem stands_any (w : World) (p : Int) (x : It) (hx : ItOk x) : Calls Tryz.prog 115 #[thV p x] w fun e w' => e = .returned (.bool (standsB p x)) ∧ Below w.heap.size w w':=by
 have hlen:=hx.ch.1
 clear hx
 obtain ⟨k,m,l,s,t,b⟩:=x
 by_cases h1 : p = 1
 ·subst h1
  rw [thV_1,stands_1]
  dsimp only
  have hrr:=as_rr
  clear hlen
  go_enter Tryz.func115,Tryz.ntmps115
  go_wp2_with fail
  refine (imayBe_any _ _ _ _ _).mono ?_
  rintro e w1 ⟨rfl,hb1⟩
  go_wp2_with fail
  go_ret
  exact ⟨rfl,((Below.refl _ w).alloc (Nat.le_refl _) _).trans (hb1.mono ((Below.refl _ w).alloc (Nat.le_refl _) _).size)⟩
 ·by_cases h2 : p = 2
  ·subst h2
   rw [thV_2,stands_2]
   dsimp only
   have hee:=as_ee
   have her:=as_er
   clear hlen
   go_enter Tryz.func115,Tryz.ntmps115
   go_wp2_with fail
   go_ret
   exact ⟨rfl,Below.refl _ _⟩
  ·rw [thV_3 h1 h2,stands_3 h1 h2]
   dsimp only
   have hdd:=as_dd
   have hde:=as_de
   have hdr:=as_dr
   have hzd:=zeroData
   have HZ : Hid (zeroC.length = 32):=ch_zero.1
   have HX : Hid (b.length = 32):=hlen
   clear hlen
   go_enter Tryz.func115,Tryz.ntmps115
   go_wp2_with (refine wpList_storeD rfl _ _ rfl rfl b zeroC rfl HX.out HZ.out ?_)
   go_ret
   exact ⟨rfl,(Below.refl _ w).alloc (Nat.le_refl _) _⟩
end Go.Proofs.YtgajjphjkbnaeaaGreat
