/- DgState, DlRow0, DgGet: in one text. -/
import Derived.Test.YtgajjphjkbnaeaaGreatQ12
import Derived.Test.YtgajjphjkbnaeaaGreatQ13
import Derived.Deep.MidRow
namespace Go.Proofs.YtgajjphjkbnaeaaGreat
open Go.RowKit
set_option linter.unusedVariables false
set_option maxHeartbeats 32000000
set_option maxRecDepth 100000
set_option linter.unusedSimpArgs false
def xdC (v : Value) (m : Int) : Array Value:=#[v,.int .i64 m]
structure XdAt (w : World) (p : Nat) (v : Value) (m : Int) (xs : List Cg) : Prop where
 row : w.heap[p]? = some (.cells (xdC v m) 175 (0,0))
 at_ : w.ownsRow 0 114 46 v xs.length (xs.flatMap cgL)
 ok : ∀ c ∈ xs,CgOk c
theorem XdAt.lt {w : World} {p : Nat} {v : Value} {m : Int} {xs : List Cg} (h : XdAt w p v m xs) : p < w.heap.size:=(Array.getElem?_eq_some_iff.1 h.row).1
theorem XdAt.c0 {w : World} {p : Nat} {v : Value} {m : Int} {xs : List Cg} (h : XdAt w p v m xs) : w.cell? ⟨p,0,none⟩ = some v:=by rw [cell_of_row _ _ _ _ _ (0,0) h.row]; rfl
theorem XdAt.c1 {w : World} {p : Nat} {v : Value} {m : Int} {xs : List Cg} (h : XdAt w p v m xs) : w.cell? ⟨p,1,none⟩ = some (.int .i64 m):=by rw [cell_of_row _ _ _ _ _ (0,0) h.row]; rfl
theorem XdAt.keep {w w' : World} {p : Nat} {v : Value} {m : Int} {xs : List Cg} (h : XdAt w p v m xs) (hs : w.heap.size ≤ w'.heap.size) (hp : w'.heap[p]? = w.heap[p]?) (hv : ∀ q,v.ownBlock = some q → w'.heap[q]? = w.heap[q]?) : XdAt w' p v m xs :=
 ⟨hp.trans h.row,own_keep h.at_ hs (fun q hq _ => hv q hq),h.ok⟩
theorem XdAt.below {w w' : World} {p : Nat} {v : Value} {m : Int} {xs : List Cg} (h : XdAt w p v m xs) (hb : Below w.heap.size w w') : XdAt w' p v m xs :=
 h.keep hb.size (hb.block _ h.lt) fun q hq => hb.block q (World.ownsRow.lt h.at_ q hq).2
theorem XdAt.shape {w : World} {p : Nat} {v : Value} {m : Int} {xs : List Cg} (h : XdAt w p v m xs) : ∃ a c,v = .slice a xs.length c:=own_shape h.at_
open Go.RowKit Go.Maps
theorem flat_at {L : List Cg} (hL : ∀ c ∈ L,CgOk c) {i : Nat} (hi : i < L.length) (j : Nat) (hj : j < 46) : (L.flatMap cgL)[i * 46 + j]? = (cgL (L.getD i cg0))[j]?:=by
 induction L generalizing i with
 | nil => simp at hi
 | cons c L ih =>
  have hc:=cgL_len (hL c (by simp)).pt.ch.1
  rw [List.flatMap_cons]
  cases i with
  | zero =>
   rw [List.getElem?_append_left (by omega)]
   simp
  | succ i =>
   rw [List.getElem?_append_right (by omega),hc,show (i + 1) * 46 + j - 46 = i * 46 + j by omega]
   exact ih (fun x hx => hL x (by simp [hx])) (by simpa using hi)
structure RowG (w : World) (g : Nat) (L : List Cg) : Prop where
 at_ : ∀ i,i < L.length → w.rangeAt g (i * 46) (cgL (L.getD i cg0))
 lt : g < w.heap.size
theorem RowG.below {w w' : World} {g : Nat} {L : List Cg} (h : RowG w g L) (hb : Below w.heap.size w w') : RowG w' g L :=
 ⟨fun i hi j u hu => (World.cell?_of_block (hb.block g h.lt)).trans (h.at_ i hi j u hu),Nat.lt_of_lt_of_le h.lt hb.size⟩
theorem RowG.load {w : World} {g : Nat} {L : List Cg} (h : RowG w g L) {i : Nat} (hi : i < L.length) (hk : CgOk (L.getD i cg0)) : (Instr.loadAt 114 (.pointer (some ⟨g,i * 46,none⟩))).run Tryz.prog w = .ok (.agg (cgC (L.getD i cg0))) w :=
 run_loadAt_mid (P:=Tryz.prog) w g (i * 46) 114 _ _ (h.at_ i hi) Tryz.underlying114 rfl (by rw [cgL_len hk.pt.ch.1]; exact size_cg)
theorem RowG.loadP {w : World} {g : Nat} {L : List Cg} (h : RowG w g L) {i : Nat} (hi : i < L.length) : (Instr.loadAt 110 (.pointer (some ⟨g,i * 46,none⟩))).run Tryz.prog w = .ok (plV (L.getD i cg0).pl) w:=by
 have hr : w.rangeAt g (i * 46) (plCells (L.getD i cg0).pl).toList:=fun j u hu => h.at_ i hi j u (by
  have : (cgL (L.getD i cg0)) = (plCells (L.getD i cg0).pl).toList ++ (cgL (L.getD i cg0)).drop 4:=rfl
  rw [this,List.getElem?_append_left (List.getElem?_eq_some_iff.1 hu).1]; exact hu)
 exact run_loadAt_mid w g (i * 46) 110 (plCells (L.getD i cg0).pl).toList _ hr Tryz.underlying110 rfl (by kernel_rfl)
theorem range_load {W : World} {g off : Nat} {c : Cg} (h : W.rangeAt g off (cgL c)) (hk : CgOk c) : (Instr.loadAt 114 (.pointer (some ⟨g,off,none⟩))).run Tryz.prog W = .ok (.agg (cgC c)) W :=
 run_loadAt_mid (P:=Tryz.prog) W g off 114 _ _ h Tryz.underlying114 rfl (by rw [cgL_len hk.pt.ch.1]; exact size_cg)
open Go.RowKit Go.Maps
theorem PlAt.loadG {w : World} {g : Nat} {p : Pl} (h : PlAt w g p) : (Instr.loadAt 110 (.pointer (some ⟨g,0,none⟩))).run Tryz.prog w = .ok (plV p) w :=
 run_loadAt_mid (P:=Tryz.prog) w g 0 110 (plCells p).toList _ (fun j u hu => by rw [cell_of_row _ _ _ _ _ (0,0) h.row,Nat.zero_add,← Array.getElem?_toList]; exact hu) Tryz.underlying110 rfl (by kernel_rfl)
end Go.Proofs.YtgajjphjkbnaeaaGreat
