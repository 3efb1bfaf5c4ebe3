/-
  No cell of these rows narrows 'for every input' (looked for: loops, veiled, ifaces, maps, wideKeys, modest, calm, conditions, laid).
  DERIVED. THE GIVEN ROWS OF THIS SEAT. 4 by the template 'for every input the law returns true; each argument reads behind the call as it read before'; 0 by the template 'total and deterministic' (their statements: YtakifnlfgaedjaaTotals.lean).
  GIVEN WITH THE SEED: the statements are not yours to turn. If you find one false, say at which input.
  Laid BY PROGRAM, IN A SANDBOX (cutbox-rows.mjs): the forced cells as the released guide's own fill.sh prints them over the translation 7d8cd847acdf90ee… (all of the seat's roots in one cut). By AI agents, Wed Nov 11 2026. No macro, syntax, notation, axiom, sorry.
-/
import Derived.Test.YtakifnlfgaedjaaChecked
import GoSem.Claim
import GoSem.ClaimJoined
import GoSem.ClaimMapViews
import Derived.JoinedTies
import Derived.KernelRfl
namespace Go.Proofs.Ytakifnlfgaedjaa
/- THE CELL 'sum', in the pinned program and in every row, IS THE sha256 OF THE DUMP (.gsa) THAT YtakifnlfgaedjaaProg.lean LOADS. Nothing in Lean hashes anything: it is a label: what it is worth is what the hold of that sum in a sandbox is worth. -/
noncomputable def Try.pinned : Pinned := { name := "ytakifnlfgaedjaa", sum := "7d8cd847acdf90ee1eb81ec3fb43f4b6a74d1845def435b83d94d815f88c5778", checked := Try.checked }
namespace Rows
def none {H : Type} : Left H := { results := [], args := [] }

/-- 'armoirelaw10.VersionGoes': WHATEVER THE INPUT: true; the input reads as it did. -/
def versionGoesSpec : ChangeSpec := { name := "versionGoes", fn := fun _ => fun
  | [d1, d2, d3] => { results := [.lit (.bool true)], args := [d1, d2, d3] }
  | _ => none }
def versionGoesRow : OpenClaim := { program := "ytakifnlfgaedjaa", sum := "7d8cd847acdf90ee1eb81ec3fb43f4b6a74d1845def435b83d94d815f88c5778", func := "armoire/armoirelaw10.VersionGoes", spec := "versionGoes", unfollowed := true, recurses := true, apart := false }
def VersionGoesSaid : Prop := versionGoesRow.holds Try.pinned (OpenSpec.ofChange versionGoesSpec)

/-- ITS FALSE NEIGHBOUR: 'it returns false'. Refute it at one input. -/
def versionGoesWrong : ChangeSpec := { name := "versionGoes", fn := fun _ => fun
  | [d1, d2, d3] => { results := [.lit (.bool false)], args := [d1, d2, d3] }
  | _ => none }
def VersionGoesWrongFalsely : Prop := versionGoesRow.holds Try.pinned (OpenSpec.ofChange versionGoesWrong)

/-- 'armoirelaw10.VersionKeeps': WHATEVER THE INPUT: true; the input reads as it did. -/
def versionKeepsSpec : ChangeSpec := { name := "versionKeeps", fn := fun _ => fun
  | [d] => { results := [.lit (.bool true)], args := [d] }
  | _ => none }
def versionKeepsRow : OpenClaim := { program := "ytakifnlfgaedjaa", sum := "7d8cd847acdf90ee1eb81ec3fb43f4b6a74d1845def435b83d94d815f88c5778", func := "armoire/armoirelaw10.VersionKeeps", spec := "versionKeeps", unfollowed := true, recurses := true, apart := false }
def VersionKeepsSaid : Prop := versionKeepsRow.holds Try.pinned (OpenSpec.ofChange versionKeepsSpec)

/-- ITS FALSE NEIGHBOUR: 'it returns false'. Refute it at one input. -/
def versionKeepsWrong : ChangeSpec := { name := "versionKeeps", fn := fun _ => fun
  | [d] => { results := [.lit (.bool false)], args := [d] }
  | _ => none }
def VersionKeepsWrongFalsely : Prop := versionKeepsRow.holds Try.pinned (OpenSpec.ofChange versionKeepsWrong)

/-- 'armoirelaw10.VersionWindow': WHATEVER THE INPUT: true; the input reads as it did. -/
def versionWindowSpec : ChangeSpec := { name := "versionWindow", fn := fun _ => fun
  | [d] => { results := [.lit (.bool true)], args := [d] }
  | _ => none }
def versionWindowRow : OpenClaim := { program := "ytakifnlfgaedjaa", sum := "7d8cd847acdf90ee1eb81ec3fb43f4b6a74d1845def435b83d94d815f88c5778", func := "armoire/armoirelaw10.VersionWindow", spec := "versionWindow", unfollowed := true, recurses := true, apart := false }
def VersionWindowSaid : Prop := versionWindowRow.holds Try.pinned (OpenSpec.ofChange versionWindowSpec)

/-- ITS FALSE NEIGHBOUR: 'it returns false'. Refute it at one input. -/
def versionWindowWrong : ChangeSpec := { name := "versionWindow", fn := fun _ => fun
  | [d] => { results := [.lit (.bool false)], args := [d] }
  | _ => none }
def VersionWindowWrongFalsely : Prop := versionWindowRow.holds Try.pinned (OpenSpec.ofChange versionWindowWrong)

/-- 'armoirelaw10.VersionNumbers': WHATEVER THE INPUT: true; the input reads as it did. -/
def versionNumbersSpec : ChangeSpec := { name := "versionNumbers", fn := fun _ => fun
  | [d1, d2] => { results := [.lit (.bool true)], args := [d1, d2] }
  | _ => none }
def versionNumbersRow : OpenClaim := { program := "ytakifnlfgaedjaa", sum := "7d8cd847acdf90ee1eb81ec3fb43f4b6a74d1845def435b83d94d815f88c5778", func := "armoire/armoirelaw10.VersionNumbers", spec := "versionNumbers", unfollowed := true, recurses := true, apart := false }
def VersionNumbersSaid : Prop := versionNumbersRow.holds Try.pinned (OpenSpec.ofChange versionNumbersSpec)

/-- ITS FALSE NEIGHBOUR: 'it returns false'. Refute it at one input. -/
def versionNumbersWrong : ChangeSpec := { name := "versionNumbers", fn := fun _ => fun
  | [d1, d2] => { results := [.lit (.bool false)], args := [d1, d2] }
  | _ => none }
def VersionNumbersWrongFalsely : Prop := versionNumbersRow.holds Try.pinned (OpenSpec.ofChange versionNumbersWrong)

/- THE SECOND FORM. 'bulk': how many values and letters a reading holds, each counted each time it is reached (what is shared counts as often as it is met; a slice's spare places count too). A statement '..UptoSaid' is the law's where the arguments, and the package variables that the reading takes, are together of bulk at most 1048576: NARROWER than '..Said'. Prove '..Said' where nothing that the law and all that it calls make is longer than what came in: it says more and counts as full. Else prove '..UptoSaid'. A law counts once. -/
mutual
def uptoBulk {H : Type} : DataW H → Nat
  | .lit (.string bytes) => bytes.length + 1
  | .lit _ => 1
  | .nil => 1
  | .ptr d => uptoBulk d + 1
  | .slice elems spare => uptoBulkAll elems + uptoBulkAll spare + 1
  | .agg parts => uptoBulkAll parts + 1
  | .iface _ d => uptoBulk d + 1
  | .map entries => uptoBulkEntries entries + 1
  | .held _ => 1
def uptoBulkAll {H : Type} : List (DataW H) → Nat
  | [] => 0
  | d :: r => uptoBulk d + uptoBulkAll r
def uptoBulkEntries {H : Type} : List (Lit × DataW H) → Nat
  | [] => 0
  | x :: r => uptoBulkEntry x + uptoBulkEntries r
def uptoBulkEntry {H : Type} : Lit × DataW H → Nat
  | (.string bytes, d) => bytes.length + uptoBulk d + 1
  | (_, d) => uptoBulk d + 1
 end
def uptoSmall : (H : Type) → List (DataW H) → Bool := fun _ ds => decide (uptoBulkAll ds ≤ 1048576)
def OpenSpec.upto (s : _root_.Go.ChangeSpec) : _root_.Go.OpenSpec := { _root_.Go.OpenSpec.ofChange s with cond := some uptoSmall }

/-- 'armoirelaw10.VersionGoes', WHERE WHAT IT READS IS OF BULK AT MOST 1048576: true; the input reads as it did. -/
def versionGoesUptoRow : OpenClaim := { program := "ytakifnlfgaedjaa", sum := "7d8cd847acdf90ee1eb81ec3fb43f4b6a74d1845def435b83d94d815f88c5778", func := "armoire/armoirelaw10.VersionGoes", spec := "versionGoes", unfollowed := true, recurses := true, apart := false, narrowed := true }
def VersionGoesUptoSaid : Prop := versionGoesUptoRow.holds Try.pinned (OpenSpec.upto versionGoesSpec)

/-- 'armoirelaw10.VersionKeeps', WHERE WHAT IT READS IS OF BULK AT MOST 1048576: true; the input reads as it did. -/
def versionKeepsUptoRow : OpenClaim := { program := "ytakifnlfgaedjaa", sum := "7d8cd847acdf90ee1eb81ec3fb43f4b6a74d1845def435b83d94d815f88c5778", func := "armoire/armoirelaw10.VersionKeeps", spec := "versionKeeps", unfollowed := true, recurses := true, apart := false, narrowed := true }
def VersionKeepsUptoSaid : Prop := versionKeepsUptoRow.holds Try.pinned (OpenSpec.upto versionKeepsSpec)

/-- 'armoirelaw10.VersionWindow', WHERE WHAT IT READS IS OF BULK AT MOST 1048576: true; the input reads as it did. -/
def versionWindowUptoRow : OpenClaim := { program := "ytakifnlfgaedjaa", sum := "7d8cd847acdf90ee1eb81ec3fb43f4b6a74d1845def435b83d94d815f88c5778", func := "armoire/armoirelaw10.VersionWindow", spec := "versionWindow", unfollowed := true, recurses := true, apart := false, narrowed := true }
def VersionWindowUptoSaid : Prop := versionWindowUptoRow.holds Try.pinned (OpenSpec.upto versionWindowSpec)

/-- 'armoirelaw10.VersionNumbers', WHERE WHAT IT READS IS OF BULK AT MOST 1048576: true; the input reads as it did. -/
def versionNumbersUptoRow : OpenClaim := { program := "ytakifnlfgaedjaa", sum := "7d8cd847acdf90ee1eb81ec3fb43f4b6a74d1845def435b83d94d815f88c5778", func := "armoire/armoirelaw10.VersionNumbers", spec := "versionNumbers", unfollowed := true, recurses := true, apart := false, narrowed := true }
def VersionNumbersUptoSaid : Prop := versionNumbersUptoRow.holds Try.pinned (OpenSpec.upto versionNumbersSpec)

end Rows
end Go.Proofs.Ytakifnlfgaedjaa
