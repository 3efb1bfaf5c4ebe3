/-
  No cell of these rows narrows 'for every input' (looked for: loops, veiled, ifaces, maps, wideKeys, modest, calm, conditions, laid).
  DERIVED. THE GIVEN ROWS OF THIS SEAT. 6 by the template 'for every input the law returns true; each argument reads behind the call as it read before'; 0 by the template 'total and deterministic' (their statements: YtanbjdcffcnfgaaTotals.lean).
  GIVEN WITH THE SEED: the statements are not yours to turn. If you find one false, say at which input.
  Laid BY PROGRAM, IN A SANDBOX (cutbox-rows.mjs): the forced cells as the released guide's own fill.sh prints them over the translation b32a3dd61d6114b9… (all of the seat's roots in one cut). By AI agents, Wed Nov 11 2026. No macro, syntax, notation, axiom, sorry.
-/
import Derived.Test.YtanbjdcffcnfgaaChecked
import GoSem.Claim
import GoSem.ClaimJoined
import GoSem.ClaimMapViews
import Derived.JoinedTies
import Derived.KernelRfl
namespace Go.Proofs.Ytanbjdcffcnfgaa
/- THE CELL 'sum', in the pinned program and in every row, IS THE sha256 OF THE DUMP (.gsa) THAT YtanbjdcffcnfgaaProg.lean LOADS. Nothing in Lean hashes anything: it is a label: what it is worth is what the hold of that sum in a sandbox is worth. -/
noncomputable def Try.pinned : Pinned := { name := "ytanbjdcffcnfgaa", sum := "b32a3dd61d6114b99c11b3688c7d8a8d4715ad25ec8c21478f0bb397c0bfcf5f", checked := Try.checked }
namespace Rows
def none {H : Type} : Left H := { results := [], args := [] }

/-- 'armoirelaw05.PageNodes': WHATEVER THE INPUT: true; the input reads as it did. -/
def pageNodesSpec : ChangeSpec := { name := "pageNodes", fn := fun _ => fun
  | [d1, d2] => { results := [.lit (.bool true)], args := [d1, d2] }
  | _ => none }
def pageNodesRow : OpenClaim := { program := "ytanbjdcffcnfgaa", sum := "b32a3dd61d6114b99c11b3688c7d8a8d4715ad25ec8c21478f0bb397c0bfcf5f", func := "armoire/armoirelaw05.PageNodes", spec := "pageNodes", unfollowed := true, recurses := true, apart := false }
def PageNodesSaid : Prop := pageNodesRow.holds Try.pinned (OpenSpec.ofChange pageNodesSpec)

/-- ITS FALSE NEIGHBOUR: 'it returns false'. Refute it at one input. -/
def pageNodesWrong : ChangeSpec := { name := "pageNodes", fn := fun _ => fun
  | [d1, d2] => { results := [.lit (.bool false)], args := [d1, d2] }
  | _ => none }
def PageNodesWrongFalsely : Prop := pageNodesRow.holds Try.pinned (OpenSpec.ofChange pageNodesWrong)

/-- 'armoirelaw05.PageReads': WHATEVER THE INPUT: true; the input reads as it did. -/
def pageReadsSpec : ChangeSpec := { name := "pageReads", fn := fun _ => fun
  | [d] => { results := [.lit (.bool true)], args := [d] }
  | _ => none }
def pageReadsRow : OpenClaim := { program := "ytanbjdcffcnfgaa", sum := "b32a3dd61d6114b99c11b3688c7d8a8d4715ad25ec8c21478f0bb397c0bfcf5f", func := "armoire/armoirelaw05.PageReads", spec := "pageReads", unfollowed := true, recurses := true, apart := false }
def PageReadsSaid : Prop := pageReadsRow.holds Try.pinned (OpenSpec.ofChange pageReadsSpec)

/-- ITS FALSE NEIGHBOUR: 'it returns false'. Refute it at one input. -/
def pageReadsWrong : ChangeSpec := { name := "pageReads", fn := fun _ => fun
  | [d] => { results := [.lit (.bool false)], args := [d] }
  | _ => none }
def PageReadsWrongFalsely : Prop := pageReadsRow.holds Try.pinned (OpenSpec.ofChange pageReadsWrong)

/-- 'armoirelaw05.PageHeads': WHATEVER THE INPUT: true; the input reads as it did. -/
def pageHeadsSpec : ChangeSpec := { name := "pageHeads", fn := fun _ => fun
  | [d] => { results := [.lit (.bool true)], args := [d] }
  | _ => none }
def pageHeadsRow : OpenClaim := { program := "ytanbjdcffcnfgaa", sum := "b32a3dd61d6114b99c11b3688c7d8a8d4715ad25ec8c21478f0bb397c0bfcf5f", func := "armoire/armoirelaw05.PageHeads", spec := "pageHeads", unfollowed := true, recurses := true, apart := false }
def PageHeadsSaid : Prop := pageHeadsRow.holds Try.pinned (OpenSpec.ofChange pageHeadsSpec)

/-- ITS FALSE NEIGHBOUR: 'it returns false'. Refute it at one input. -/
def pageHeadsWrong : ChangeSpec := { name := "pageHeads", fn := fun _ => fun
  | [d] => { results := [.lit (.bool false)], args := [d] }
  | _ => none }
def PageHeadsWrongFalsely : Prop := pageHeadsRow.holds Try.pinned (OpenSpec.ofChange pageHeadsWrong)

/-- 'armoirelaw05.PageBack': WHATEVER THE INPUT: true; the input reads as it did. -/
def pageBackSpec : ChangeSpec := { name := "pageBack", fn := fun _ => fun
  | [d1, d2] => { results := [.lit (.bool true)], args := [d1, d2] }
  | _ => none }
def pageBackRow : OpenClaim := { program := "ytanbjdcffcnfgaa", sum := "b32a3dd61d6114b99c11b3688c7d8a8d4715ad25ec8c21478f0bb397c0bfcf5f", func := "armoire/armoirelaw05.PageBack", spec := "pageBack", unfollowed := true, recurses := true, apart := false }
def PageBackSaid : Prop := pageBackRow.holds Try.pinned (OpenSpec.ofChange pageBackSpec)

/-- ITS FALSE NEIGHBOUR: 'it returns false'. Refute it at one input. -/
def pageBackWrong : ChangeSpec := { name := "pageBack", fn := fun _ => fun
  | [d1, d2] => { results := [.lit (.bool false)], args := [d1, d2] }
  | _ => none }
def PageBackWrongFalsely : Prop := pageBackRow.holds Try.pinned (OpenSpec.ofChange pageBackWrong)

/-- 'armoirelaw05.PageSealed': WHATEVER THE INPUT: true; the input reads as it did. -/
def pageSealedSpec : ChangeSpec := { name := "pageSealed", fn := fun _ => fun
  | [d] => { results := [.lit (.bool true)], args := [d] }
  | _ => none }
def pageSealedRow : OpenClaim := { program := "ytanbjdcffcnfgaa", sum := "b32a3dd61d6114b99c11b3688c7d8a8d4715ad25ec8c21478f0bb397c0bfcf5f", func := "armoire/armoirelaw05.PageSealed", spec := "pageSealed", unfollowed := true, recurses := true, apart := false }
def PageSealedSaid : Prop := pageSealedRow.holds Try.pinned (OpenSpec.ofChange pageSealedSpec)

/-- ITS FALSE NEIGHBOUR: 'it returns false'. Refute it at one input. -/
def pageSealedWrong : ChangeSpec := { name := "pageSealed", fn := fun _ => fun
  | [d] => { results := [.lit (.bool false)], args := [d] }
  | _ => none }
def PageSealedWrongFalsely : Prop := pageSealedRow.holds Try.pinned (OpenSpec.ofChange pageSealedWrong)

/-- 'armoirelaw05.PageChild': WHATEVER THE INPUT: true; the input reads as it did. -/
def pageChildSpec : ChangeSpec := { name := "pageChild", fn := fun _ => fun
  | [d1, d2] => { results := [.lit (.bool true)], args := [d1, d2] }
  | _ => none }
def pageChildRow : OpenClaim := { program := "ytanbjdcffcnfgaa", sum := "b32a3dd61d6114b99c11b3688c7d8a8d4715ad25ec8c21478f0bb397c0bfcf5f", func := "armoire/armoirelaw05.PageChild", spec := "pageChild", unfollowed := true, recurses := true, apart := false }
def PageChildSaid : Prop := pageChildRow.holds Try.pinned (OpenSpec.ofChange pageChildSpec)

/-- ITS FALSE NEIGHBOUR: 'it returns false'. Refute it at one input. -/
def pageChildWrong : ChangeSpec := { name := "pageChild", fn := fun _ => fun
  | [d1, d2] => { results := [.lit (.bool false)], args := [d1, d2] }
  | _ => none }
def PageChildWrongFalsely : Prop := pageChildRow.holds Try.pinned (OpenSpec.ofChange pageChildWrong)

/- THE SECOND FORM. 'bulk': how many values and letters a reading holds, each counted each time it is reached (what is shared counts as often as it is met; a slice's spare places count too). A statement '..UptoSaid' is the law's where the arguments, and the package variables that the reading takes, are together of bulk at most 1048576: NARROWER than '..Said'. Prove '..Said' where nothing that the law and all that it calls make is longer than what came in: it says more and counts as full. Else prove '..UptoSaid'. A law counts once. -/
mutual
def uptoBulk {H : Type} : DataW H → Nat
  | .lit (.string bytes) => bytes.length + 1
  | .lit _ => 1
  | .nil => 1
  | .ptr d => uptoBulk d + 1
  | .slice elems spare => uptoBulkAll elems + uptoBulkAll spare + 1
  | .agg parts => uptoBulkAll parts + 1
  | .iface _ d => uptoBulk d + 1
  | .map entries => uptoBulkEntries entries + 1
  | .held _ => 1
def uptoBulkAll {H : Type} : List (DataW H) → Nat
  | [] => 0
  | d :: r => uptoBulk d + uptoBulkAll r
def uptoBulkEntries {H : Type} : List (Lit × DataW H) → Nat
  | [] => 0
  | x :: r => uptoBulkEntry x + uptoBulkEntries r
def uptoBulkEntry {H : Type} : Lit × DataW H → Nat
  | (.string bytes, d) => bytes.length + uptoBulk d + 1
  | (_, d) => uptoBulk d + 1
 end
def uptoSmall : (H : Type) → List (DataW H) → Bool := fun _ ds => decide (uptoBulkAll ds ≤ 1048576)
def OpenSpec.upto (s : _root_.Go.ChangeSpec) : _root_.Go.OpenSpec := { _root_.Go.OpenSpec.ofChange s with cond := some uptoSmall }

/-- 'armoirelaw05.PageNodes', WHERE WHAT IT READS IS OF BULK AT MOST 1048576: true; the input reads as it did. -/
def pageNodesUptoRow : OpenClaim := { program := "ytanbjdcffcnfgaa", sum := "b32a3dd61d6114b99c11b3688c7d8a8d4715ad25ec8c21478f0bb397c0bfcf5f", func := "armoire/armoirelaw05.PageNodes", spec := "pageNodes", unfollowed := true, recurses := true, apart := false, narrowed := true }
def PageNodesUptoSaid : Prop := pageNodesUptoRow.holds Try.pinned (OpenSpec.upto pageNodesSpec)

/-- 'armoirelaw05.PageReads', WHERE WHAT IT READS IS OF BULK AT MOST 1048576: true; the input reads as it did. -/
def pageReadsUptoRow : OpenClaim := { program := "ytanbjdcffcnfgaa", sum := "b32a3dd61d6114b99c11b3688c7d8a8d4715ad25ec8c21478f0bb397c0bfcf5f", func := "armoire/armoirelaw05.PageReads", spec := "pageReads", unfollowed := true, recurses := true, apart := false, narrowed := true }
def PageReadsUptoSaid : Prop := pageReadsUptoRow.holds Try.pinned (OpenSpec.upto pageReadsSpec)

/-- 'armoirelaw05.PageHeads', WHERE WHAT IT READS IS OF BULK AT MOST 1048576: true; the input reads as it did. -/
def pageHeadsUptoRow : OpenClaim := { program := "ytanbjdcffcnfgaa", sum := "b32a3dd61d6114b99c11b3688c7d8a8d4715ad25ec8c21478f0bb397c0bfcf5f", func := "armoire/armoirelaw05.PageHeads", spec := "pageHeads", unfollowed := true, recurses := true, apart := false, narrowed := true }
def PageHeadsUptoSaid : Prop := pageHeadsUptoRow.holds Try.pinned (OpenSpec.upto pageHeadsSpec)

/-- 'armoirelaw05.PageBack', WHERE WHAT IT READS IS OF BULK AT MOST 1048576: true; the input reads as it did. -/
def pageBackUptoRow : OpenClaim := { program := "ytanbjdcffcnfgaa", sum := "b32a3dd61d6114b99c11b3688c7d8a8d4715ad25ec8c21478f0bb397c0bfcf5f", func := "armoire/armoirelaw05.PageBack", spec := "pageBack", unfollowed := true, recurses := true, apart := false, narrowed := true }
def PageBackUptoSaid : Prop := pageBackUptoRow.holds Try.pinned (OpenSpec.upto pageBackSpec)

/-- 'armoirelaw05.PageSealed', WHERE WHAT IT READS IS OF BULK AT MOST 1048576: true; the input reads as it did. -/
def pageSealedUptoRow : OpenClaim := { program := "ytanbjdcffcnfgaa", sum := "b32a3dd61d6114b99c11b3688c7d8a8d4715ad25ec8c21478f0bb397c0bfcf5f", func := "armoire/armoirelaw05.PageSealed", spec := "pageSealed", unfollowed := true, recurses := true, apart := false, narrowed := true }
def PageSealedUptoSaid : Prop := pageSealedUptoRow.holds Try.pinned (OpenSpec.upto pageSealedSpec)

/-- 'armoirelaw05.PageChild', WHERE WHAT IT READS IS OF BULK AT MOST 1048576: true; the input reads as it did. -/
def pageChildUptoRow : OpenClaim := { program := "ytanbjdcffcnfgaa", sum := "b32a3dd61d6114b99c11b3688c7d8a8d4715ad25ec8c21478f0bb397c0bfcf5f", func := "armoire/armoirelaw05.PageChild", spec := "pageChild", unfollowed := true, recurses := true, apart := false, narrowed := true }
def PageChildUptoSaid : Prop := pageChildUptoRow.holds Try.pinned (OpenSpec.upto pageChildSpec)

end Rows
end Go.Proofs.Ytanbjdcffcnfgaa
