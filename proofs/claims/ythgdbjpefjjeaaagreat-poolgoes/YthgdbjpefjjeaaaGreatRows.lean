/-
  No cell of these rows narrows 'for every input' (looked for: loops, veiled, ifaces, maps, wideKeys, modest, calm, conditions, laid).
  DERIVED. THE GIVEN ROWS OF THIS SEAT. 5 by the template 'for every input the law returns true; each argument reads behind the call as it read before'; 0 by the template 'total and deterministic' (their statements: YthgdbjpefjjeaaaGreatTotals.lean).
  GIVEN WITH THE SEED: the statements are not yours to turn. If you find one false, say at which input.
  Laid BY PROGRAM, IN A SANDBOX (cutbox-rows.mjs): the forced cells as the released guide's own fill.sh prints them over the translation ed31973d0825ca87… (all of the seat's roots in one cut). By AI agents, Wed Nov 11 2026. No macro, syntax, notation, axiom, sorry.
-/
import Derived.Test.YthgdbjpefjjeaaaGreatChecked
import GoSem.Claim
import GoSem.ClaimJoined
import GoSem.ClaimMapViews
import Derived.JoinedTies
import Derived.KernelRfl
namespace Go.Proofs.YthgdbjpefjjeaaaGreat
/- THE CELL 'sum', in the pinned program and in every row, IS THE sha256 OF THE DUMP (.gsa) THAT YthgdbjpefjjeaaaGreatProg.lean LOADS. Nothing in Lean hashes anything: it is a label: what it is worth is what the hold of that sum in a sandbox is worth. -/
noncomputable def Tryz.pinned : Pinned := { name := "ythgdbjpefjjeaaagreat", sum := "ed31973d0825ca87e7c3e4b0fce86b3161b831df438a3902aec3653a4f53a1e7", checked := Tryz.checked }
namespace Rows
def none {H : Type} : Left H := { results := [], args := [] }

/-- 'armoirelaw08.PoolGoes': WHATEVER THE INPUT: true; the input reads as it did. -/
def poolGoesSpec : ChangeSpec := { name := "poolGoes", fn := fun _ => fun
  | [d1, d2, d3, d4] => { results := [.lit (.bool true)], args := [d1, d2, d3, d4] }
  | _ => none }
def poolGoesRow : OpenClaim := { program := "ythgdbjpefjjeaaagreat", sum := "ed31973d0825ca87e7c3e4b0fce86b3161b831df438a3902aec3653a4f53a1e7", func := "armoire/armoirelaw08.PoolGoes", spec := "poolGoes", unfollowed := true, recurses := true, apart := false }
def PoolGoesSaid : Prop := poolGoesRow.holds Tryz.pinned (OpenSpec.ofChange poolGoesSpec)

/-- ITS FALSE NEIGHBOUR: 'it returns false'. Refute it at one input. -/
def poolGoesWrong : ChangeSpec := { name := "poolGoes", fn := fun _ => fun
  | [d1, d2, d3, d4] => { results := [.lit (.bool false)], args := [d1, d2, d3, d4] }
  | _ => none }
def PoolGoesWrongFalsely : Prop := poolGoesRow.holds Tryz.pinned (OpenSpec.ofChange poolGoesWrong)

/-- 'armoirelaw08.PoolKeeps': WHATEVER THE INPUT: true; the input reads as it did. -/
def poolKeepsSpec : ChangeSpec := { name := "poolKeeps", fn := fun _ => fun
  | [d] => { results := [.lit (.bool true)], args := [d] }
  | _ => none }
def poolKeepsRow : OpenClaim := { program := "ythgdbjpefjjeaaagreat", sum := "ed31973d0825ca87e7c3e4b0fce86b3161b831df438a3902aec3653a4f53a1e7", func := "armoire/armoirelaw08.PoolKeeps", spec := "poolKeeps", unfollowed := true, recurses := true, apart := false }
def PoolKeepsSaid : Prop := poolKeepsRow.holds Tryz.pinned (OpenSpec.ofChange poolKeepsSpec)

/-- ITS FALSE NEIGHBOUR: 'it returns false'. Refute it at one input. -/
def poolKeepsWrong : ChangeSpec := { name := "poolKeeps", fn := fun _ => fun
  | [d] => { results := [.lit (.bool false)], args := [d] }
  | _ => none }
def PoolKeepsWrongFalsely : Prop := poolKeepsRow.holds Tryz.pinned (OpenSpec.ofChange poolKeepsWrong)

/-- 'armoirelaw08.PoolUndone': WHATEVER THE INPUT: true; the input reads as it did. -/
def poolUndoneSpec : ChangeSpec := { name := "poolUndone", fn := fun _ => fun
  | [d1, d2] => { results := [.lit (.bool true)], args := [d1, d2] }
  | _ => none }
def poolUndoneRow : OpenClaim := { program := "ythgdbjpefjjeaaagreat", sum := "ed31973d0825ca87e7c3e4b0fce86b3161b831df438a3902aec3653a4f53a1e7", func := "armoire/armoirelaw08.PoolUndone", spec := "poolUndone", unfollowed := true, recurses := true, apart := false }
def PoolUndoneSaid : Prop := poolUndoneRow.holds Tryz.pinned (OpenSpec.ofChange poolUndoneSpec)

/-- ITS FALSE NEIGHBOUR: 'it returns false'. Refute it at one input. -/
def poolUndoneWrong : ChangeSpec := { name := "poolUndone", fn := fun _ => fun
  | [d1, d2] => { results := [.lit (.bool false)], args := [d1, d2] }
  | _ => none }
def PoolUndoneWrongFalsely : Prop := poolUndoneRow.holds Tryz.pinned (OpenSpec.ofChange poolUndoneWrong)

/-- 'armoirelaw08.PoolCut': WHATEVER THE INPUT: true; the input reads as it did. -/
def poolCutSpec : ChangeSpec := { name := "poolCut", fn := fun _ => fun
  | [d1, d2] => { results := [.lit (.bool true)], args := [d1, d2] }
  | _ => none }
def poolCutRow : OpenClaim := { program := "ythgdbjpefjjeaaagreat", sum := "ed31973d0825ca87e7c3e4b0fce86b3161b831df438a3902aec3653a4f53a1e7", func := "armoire/armoirelaw08.PoolCut", spec := "poolCut", unfollowed := true, recurses := true, apart := false }
def PoolCutSaid : Prop := poolCutRow.holds Tryz.pinned (OpenSpec.ofChange poolCutSpec)

/-- ITS FALSE NEIGHBOUR: 'it returns false'. Refute it at one input. -/
def poolCutWrong : ChangeSpec := { name := "poolCut", fn := fun _ => fun
  | [d1, d2] => { results := [.lit (.bool false)], args := [d1, d2] }
  | _ => none }
def PoolCutWrongFalsely : Prop := poolCutRow.holds Tryz.pinned (OpenSpec.ofChange poolCutWrong)

/-- 'armoirelaw08.PoolLeast': WHATEVER THE INPUT: true; the input reads as it did. -/
def poolLeastSpec : ChangeSpec := { name := "poolLeast", fn := fun _ => fun
  | [d] => { results := [.lit (.bool true)], args := [d] }
  | _ => none }
def poolLeastRow : OpenClaim := { program := "ythgdbjpefjjeaaagreat", sum := "ed31973d0825ca87e7c3e4b0fce86b3161b831df438a3902aec3653a4f53a1e7", func := "armoire/armoirelaw08.PoolLeast", spec := "poolLeast", unfollowed := true, recurses := true, apart := false }
def PoolLeastSaid : Prop := poolLeastRow.holds Tryz.pinned (OpenSpec.ofChange poolLeastSpec)

/-- ITS FALSE NEIGHBOUR: 'it returns false'. Refute it at one input. -/
def poolLeastWrong : ChangeSpec := { name := "poolLeast", fn := fun _ => fun
  | [d] => { results := [.lit (.bool false)], args := [d] }
  | _ => none }
def PoolLeastWrongFalsely : Prop := poolLeastRow.holds Tryz.pinned (OpenSpec.ofChange poolLeastWrong)

/- THE SECOND FORM. 'bulk': how many values and letters a reading holds, each counted each time it is reached (what is shared counts as often as it is met; a slice's spare places count too). A statement '..UptoSaid' is the law's where the arguments, and the package variables that the reading takes, are together of bulk at most 1048576: NARROWER than '..Said'. Prove '..Said' where nothing that the law and all that it calls make is longer than what came in: it says more and counts as full. Else prove '..UptoSaid'. A law counts once. -/
mutual
def uptoBulk {H : Type} : DataW H → Nat
  | .lit (.string bytes) => bytes.length + 1
  | .lit _ => 1
  | .nil => 1
  | .ptr d => uptoBulk d + 1
  | .slice elems spare => uptoBulkAll elems + uptoBulkAll spare + 1
  | .agg parts => uptoBulkAll parts + 1
  | .iface _ d => uptoBulk d + 1
  | .map entries => uptoBulkEntries entries + 1
  | .held _ => 1
def uptoBulkAll {H : Type} : List (DataW H) → Nat
  | [] => 0
  | d :: r => uptoBulk d + uptoBulkAll r
def uptoBulkEntries {H : Type} : List (Lit × DataW H) → Nat
  | [] => 0
  | x :: r => uptoBulkEntry x + uptoBulkEntries r
def uptoBulkEntry {H : Type} : Lit × DataW H → Nat
  | (.string bytes, d) => bytes.length + uptoBulk d + 1
  | (_, d) => uptoBulk d + 1
 end
def uptoSmall : (H : Type) → List (DataW H) → Bool := fun _ ds => decide (uptoBulkAll ds ≤ 1048576)
def OpenSpec.upto (s : _root_.Go.ChangeSpec) : _root_.Go.OpenSpec := { _root_.Go.OpenSpec.ofChange s with cond := some uptoSmall }

/-- 'armoirelaw08.PoolGoes', WHERE WHAT IT READS IS OF BULK AT MOST 1048576: true; the input reads as it did. -/
def poolGoesUptoRow : OpenClaim := { program := "ythgdbjpefjjeaaagreat", sum := "ed31973d0825ca87e7c3e4b0fce86b3161b831df438a3902aec3653a4f53a1e7", func := "armoire/armoirelaw08.PoolGoes", spec := "poolGoes", unfollowed := true, recurses := true, apart := false, narrowed := true }
def PoolGoesUptoSaid : Prop := poolGoesUptoRow.holds Tryz.pinned (OpenSpec.upto poolGoesSpec)

/-- 'armoirelaw08.PoolKeeps', WHERE WHAT IT READS IS OF BULK AT MOST 1048576: true; the input reads as it did. -/
def poolKeepsUptoRow : OpenClaim := { program := "ythgdbjpefjjeaaagreat", sum := "ed31973d0825ca87e7c3e4b0fce86b3161b831df438a3902aec3653a4f53a1e7", func := "armoire/armoirelaw08.PoolKeeps", spec := "poolKeeps", unfollowed := true, recurses := true, apart := false, narrowed := true }
def PoolKeepsUptoSaid : Prop := poolKeepsUptoRow.holds Tryz.pinned (OpenSpec.upto poolKeepsSpec)

/-- 'armoirelaw08.PoolUndone', WHERE WHAT IT READS IS OF BULK AT MOST 1048576: true; the input reads as it did. -/
def poolUndoneUptoRow : OpenClaim := { program := "ythgdbjpefjjeaaagreat", sum := "ed31973d0825ca87e7c3e4b0fce86b3161b831df438a3902aec3653a4f53a1e7", func := "armoire/armoirelaw08.PoolUndone", spec := "poolUndone", unfollowed := true, recurses := true, apart := false, narrowed := true }
def PoolUndoneUptoSaid : Prop := poolUndoneUptoRow.holds Tryz.pinned (OpenSpec.upto poolUndoneSpec)

/-- 'armoirelaw08.PoolCut', WHERE WHAT IT READS IS OF BULK AT MOST 1048576: true; the input reads as it did. -/
def poolCutUptoRow : OpenClaim := { program := "ythgdbjpefjjeaaagreat", sum := "ed31973d0825ca87e7c3e4b0fce86b3161b831df438a3902aec3653a4f53a1e7", func := "armoire/armoirelaw08.PoolCut", spec := "poolCut", unfollowed := true, recurses := true, apart := false, narrowed := true }
def PoolCutUptoSaid : Prop := poolCutUptoRow.holds Tryz.pinned (OpenSpec.upto poolCutSpec)

/-- 'armoirelaw08.PoolLeast', WHERE WHAT IT READS IS OF BULK AT MOST 1048576: true; the input reads as it did. -/
def poolLeastUptoRow : OpenClaim := { program := "ythgdbjpefjjeaaagreat", sum := "ed31973d0825ca87e7c3e4b0fce86b3161b831df438a3902aec3653a4f53a1e7", func := "armoire/armoirelaw08.PoolLeast", spec := "poolLeast", unfollowed := true, recurses := true, apart := false, narrowed := true }
def PoolLeastUptoSaid : Prop := poolLeastUptoRow.holds Tryz.pinned (OpenSpec.upto poolLeastSpec)

end Rows
end Go.Proofs.YthgdbjpefjjeaaaGreat
