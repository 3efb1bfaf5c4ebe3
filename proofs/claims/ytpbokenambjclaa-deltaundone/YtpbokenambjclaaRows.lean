/-
  No cell of these rows narrows 'for every input' (looked for: loops, veiled, ifaces, maps, wideKeys, modest, calm, conditions, laid).
  DERIVED. THE GIVEN ROWS OF THIS SEAT. 5 by the template 'for every input the law returns true; each argument reads behind the call as it read before'; 0 by the template 'total and deterministic' (their statements: YtpbokenambjclaaTotals.lean).
  GIVEN WITH THE SEED: the statements are not yours to turn. If you find one false, say at which input.
  Laid BY PROGRAM, IN A SANDBOX (cutbox-rows.mjs): the forced cells as the released guide's own fill.sh prints them over the translation d40f583d1827139f… (all of the seat's roots in one cut). By AI agents, Wed Nov 11 2026. No macro, syntax, notation, axiom, sorry.
-/
import Derived.Test.YtpbokenambjclaaChecked
import GoSem.Claim
import GoSem.ClaimJoined
import GoSem.ClaimMapViews
import Derived.JoinedTies
import Derived.KernelRfl
namespace Go.Proofs.Ytpbokenambjclaa
/- THE CELL 'sum', in the pinned program and in every row, IS THE sha256 OF THE DUMP (.gsa) THAT YtpbokenambjclaaProg.lean LOADS. Nothing in Lean hashes anything: it is a label: what it is worth is what the hold of that sum in a sandbox is worth. -/
noncomputable def Try.pinned : Pinned := { name := "ytpbokenambjclaa", sum := "d40f583d1827139fce614253a2375e2cb742bd1436ac7cf39af5b1fa18141993", checked := Try.checked }
namespace Rows
def none {H : Type} : Left H := { results := [], args := [] }

/-- 'armoirelaw13.DeltaJoins': WHATEVER THE INPUT: true; the input reads as it did. -/
def deltaJoinsSpec : ChangeSpec := { name := "deltaJoins", fn := fun _ => fun
  | [d1, d2] => { results := [.lit (.bool true)], args := [d1, d2] }
  | _ => none }
def deltaJoinsRow : OpenClaim := { program := "ytpbokenambjclaa", sum := "d40f583d1827139fce614253a2375e2cb742bd1436ac7cf39af5b1fa18141993", func := "armoire/armoirelaw13.DeltaJoins", spec := "deltaJoins", inPlace := ["internal/bytealg.IndexByteString"], unfollowed := true, recurses := true, plainKeys := false, apart := false }
def DeltaJoinsSaid : Prop := deltaJoinsRow.holds Try.pinned (OpenSpec.ofChange deltaJoinsSpec)

/-- ITS FALSE NEIGHBOUR: 'it returns false'. Refute it at one input. -/
def deltaJoinsWrong : ChangeSpec := { name := "deltaJoins", fn := fun _ => fun
  | [d1, d2] => { results := [.lit (.bool false)], args := [d1, d2] }
  | _ => none }
def DeltaJoinsWrongFalsely : Prop := deltaJoinsRow.holds Try.pinned (OpenSpec.ofChange deltaJoinsWrong)

/-- 'armoirelaw13.DeltaGoes': WHATEVER THE INPUT: true; the input reads as it did. -/
def deltaGoesSpec : ChangeSpec := { name := "deltaGoes", fn := fun _ => fun
  | [d1, d2, d3] => { results := [.lit (.bool true)], args := [d1, d2, d3] }
  | _ => none }
def deltaGoesRow : OpenClaim := { program := "ytpbokenambjclaa", sum := "d40f583d1827139fce614253a2375e2cb742bd1436ac7cf39af5b1fa18141993", func := "armoire/armoirelaw13.DeltaGoes", spec := "deltaGoes", inPlace := ["internal/bytealg.IndexByteString"], unfollowed := true, recurses := true, plainKeys := false, apart := false }
def DeltaGoesSaid : Prop := deltaGoesRow.holds Try.pinned (OpenSpec.ofChange deltaGoesSpec)

/-- ITS FALSE NEIGHBOUR: 'it returns false'. Refute it at one input. -/
def deltaGoesWrong : ChangeSpec := { name := "deltaGoes", fn := fun _ => fun
  | [d1, d2, d3] => { results := [.lit (.bool false)], args := [d1, d2, d3] }
  | _ => none }
def DeltaGoesWrongFalsely : Prop := deltaGoesRow.holds Try.pinned (OpenSpec.ofChange deltaGoesWrong)

/-- 'armoirelaw13.DeltaUndone': WHATEVER THE INPUT: true; the input reads as it did. -/
def deltaUndoneSpec : ChangeSpec := { name := "deltaUndone", fn := fun _ => fun
  | [d1, d2, d3] => { results := [.lit (.bool true)], args := [d1, d2, d3] }
  | _ => none }
def deltaUndoneRow : OpenClaim := { program := "ytpbokenambjclaa", sum := "d40f583d1827139fce614253a2375e2cb742bd1436ac7cf39af5b1fa18141993", func := "armoire/armoirelaw13.DeltaUndone", spec := "deltaUndone", inPlace := ["internal/bytealg.IndexByteString"], unfollowed := true, recurses := true, plainKeys := false, apart := false }
def DeltaUndoneSaid : Prop := deltaUndoneRow.holds Try.pinned (OpenSpec.ofChange deltaUndoneSpec)

/-- ITS FALSE NEIGHBOUR: 'it returns false'. Refute it at one input. -/
def deltaUndoneWrong : ChangeSpec := { name := "deltaUndone", fn := fun _ => fun
  | [d1, d2, d3] => { results := [.lit (.bool false)], args := [d1, d2, d3] }
  | _ => none }
def DeltaUndoneWrongFalsely : Prop := deltaUndoneRow.holds Try.pinned (OpenSpec.ofChange deltaUndoneWrong)

/-- 'armoirelaw13.DeltaMost': WHATEVER THE INPUT: true; the input reads as it did. -/
def deltaMostSpec : ChangeSpec := { name := "deltaMost", fn := fun _ => fun
  | [d1, d2] => { results := [.lit (.bool true)], args := [d1, d2] }
  | _ => none }
def deltaMostRow : OpenClaim := { program := "ytpbokenambjclaa", sum := "d40f583d1827139fce614253a2375e2cb742bd1436ac7cf39af5b1fa18141993", func := "armoire/armoirelaw13.DeltaMost", spec := "deltaMost", inPlace := ["internal/bytealg.IndexByteString"], unfollowed := true, recurses := true, plainKeys := false, apart := false }
def DeltaMostSaid : Prop := deltaMostRow.holds Try.pinned (OpenSpec.ofChange deltaMostSpec)

/-- ITS FALSE NEIGHBOUR: 'it returns false'. Refute it at one input. -/
def deltaMostWrong : ChangeSpec := { name := "deltaMost", fn := fun _ => fun
  | [d1, d2] => { results := [.lit (.bool false)], args := [d1, d2] }
  | _ => none }
def DeltaMostWrongFalsely : Prop := deltaMostRow.holds Try.pinned (OpenSpec.ofChange deltaMostWrong)

/-- 'armoirelaw13.DeltaOrder': WHATEVER THE INPUT: true; the input reads as it did. -/
def deltaOrderSpec : ChangeSpec := { name := "deltaOrder", fn := fun _ => fun
  | [d] => { results := [.lit (.bool true)], args := [d] }
  | _ => none }
def deltaOrderRow : OpenClaim := { program := "ytpbokenambjclaa", sum := "d40f583d1827139fce614253a2375e2cb742bd1436ac7cf39af5b1fa18141993", func := "armoire/armoirelaw13.DeltaOrder", spec := "deltaOrder", inPlace := ["internal/bytealg.IndexByteString"], unfollowed := true, recurses := true, plainKeys := false, apart := false }
def DeltaOrderSaid : Prop := deltaOrderRow.holds Try.pinned (OpenSpec.ofChange deltaOrderSpec)

/-- ITS FALSE NEIGHBOUR: 'it returns false'. Refute it at one input. -/
def deltaOrderWrong : ChangeSpec := { name := "deltaOrder", fn := fun _ => fun
  | [d] => { results := [.lit (.bool false)], args := [d] }
  | _ => none }
def DeltaOrderWrongFalsely : Prop := deltaOrderRow.holds Try.pinned (OpenSpec.ofChange deltaOrderWrong)

/- THE SECOND FORM. 'bulk': how many values and letters a reading holds, each counted each time it is reached (what is shared counts as often as it is met; a slice's spare places count too). A statement '..UptoSaid' is the law's where the arguments, and the package variables that the reading takes, are together of bulk at most 1048576: NARROWER than '..Said'. Prove '..Said' where nothing that the law and all that it calls make is longer than what came in: it says more and counts as full. Else prove '..UptoSaid'. A law counts once. -/
mutual
def uptoBulk {H : Type} : DataW H → Nat
  | .lit (.string bytes) => bytes.length + 1
  | .lit _ => 1
  | .nil => 1
  | .ptr d => uptoBulk d + 1
  | .slice elems spare => uptoBulkAll elems + uptoBulkAll spare + 1
  | .agg parts => uptoBulkAll parts + 1
  | .iface _ d => uptoBulk d + 1
  | .map entries => uptoBulkEntries entries + 1
  | .held _ => 1
def uptoBulkAll {H : Type} : List (DataW H) → Nat
  | [] => 0
  | d :: r => uptoBulk d + uptoBulkAll r
def uptoBulkEntries {H : Type} : List (Lit × DataW H) → Nat
  | [] => 0
  | x :: r => uptoBulkEntry x + uptoBulkEntries r
def uptoBulkEntry {H : Type} : Lit × DataW H → Nat
  | (.string bytes, d) => bytes.length + uptoBulk d + 1
  | (_, d) => uptoBulk d + 1
 end
def uptoSmall : (H : Type) → List (DataW H) → Bool := fun _ ds => decide (uptoBulkAll ds ≤ 1048576)
def OpenSpec.upto (s : _root_.Go.ChangeSpec) : _root_.Go.OpenSpec := { _root_.Go.OpenSpec.ofChange s with cond := some uptoSmall }

/-- 'armoirelaw13.DeltaJoins', WHERE WHAT IT READS IS OF BULK AT MOST 1048576: true; the input reads as it did. -/
def deltaJoinsUptoRow : OpenClaim := { program := "ytpbokenambjclaa", sum := "d40f583d1827139fce614253a2375e2cb742bd1436ac7cf39af5b1fa18141993", func := "armoire/armoirelaw13.DeltaJoins", spec := "deltaJoins", inPlace := ["internal/bytealg.IndexByteString"], unfollowed := true, recurses := true, plainKeys := false, apart := false, narrowed := true }
def DeltaJoinsUptoSaid : Prop := deltaJoinsUptoRow.holds Try.pinned (OpenSpec.upto deltaJoinsSpec)

/-- 'armoirelaw13.DeltaGoes', WHERE WHAT IT READS IS OF BULK AT MOST 1048576: true; the input reads as it did. -/
def deltaGoesUptoRow : OpenClaim := { program := "ytpbokenambjclaa", sum := "d40f583d1827139fce614253a2375e2cb742bd1436ac7cf39af5b1fa18141993", func := "armoire/armoirelaw13.DeltaGoes", spec := "deltaGoes", inPlace := ["internal/bytealg.IndexByteString"], unfollowed := true, recurses := true, plainKeys := false, apart := false, narrowed := true }
def DeltaGoesUptoSaid : Prop := deltaGoesUptoRow.holds Try.pinned (OpenSpec.upto deltaGoesSpec)

/-- 'armoirelaw13.DeltaUndone', WHERE WHAT IT READS IS OF BULK AT MOST 1048576: true; the input reads as it did. -/
def deltaUndoneUptoRow : OpenClaim := { program := "ytpbokenambjclaa", sum := "d40f583d1827139fce614253a2375e2cb742bd1436ac7cf39af5b1fa18141993", func := "armoire/armoirelaw13.DeltaUndone", spec := "deltaUndone", inPlace := ["internal/bytealg.IndexByteString"], unfollowed := true, recurses := true, plainKeys := false, apart := false, narrowed := true }
def DeltaUndoneUptoSaid : Prop := deltaUndoneUptoRow.holds Try.pinned (OpenSpec.upto deltaUndoneSpec)

/-- 'armoirelaw13.DeltaMost', WHERE WHAT IT READS IS OF BULK AT MOST 1048576: true; the input reads as it did. -/
def deltaMostUptoRow : OpenClaim := { program := "ytpbokenambjclaa", sum := "d40f583d1827139fce614253a2375e2cb742bd1436ac7cf39af5b1fa18141993", func := "armoire/armoirelaw13.DeltaMost", spec := "deltaMost", inPlace := ["internal/bytealg.IndexByteString"], unfollowed := true, recurses := true, plainKeys := false, apart := false, narrowed := true }
def DeltaMostUptoSaid : Prop := deltaMostUptoRow.holds Try.pinned (OpenSpec.upto deltaMostSpec)

/-- 'armoirelaw13.DeltaOrder', WHERE WHAT IT READS IS OF BULK AT MOST 1048576: true; the input reads as it did. -/
def deltaOrderUptoRow : OpenClaim := { program := "ytpbokenambjclaa", sum := "d40f583d1827139fce614253a2375e2cb742bd1436ac7cf39af5b1fa18141993", func := "armoire/armoirelaw13.DeltaOrder", spec := "deltaOrder", inPlace := ["internal/bytealg.IndexByteString"], unfollowed := true, recurses := true, plainKeys := false, apart := false, narrowed := true }
def DeltaOrderUptoSaid : Prop := deltaOrderUptoRow.holds Try.pinned (OpenSpec.upto deltaOrderSpec)

end Rows
end Go.Proofs.Ytpbokenambjclaa
