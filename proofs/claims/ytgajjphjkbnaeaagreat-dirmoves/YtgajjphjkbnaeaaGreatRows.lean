/-
  No cell of these rows narrows 'for every input' (looked for: loops, veiled, ifaces, maps, wideKeys, modest, calm, conditions, laid).
  DERIVED. THE GIVEN ROWS OF THIS SEAT. 3 by the template 'for every input the law returns true; each argument reads behind the call as it read before'; 0 by the template 'total and deterministic' (their statements: YtgajjphjkbnaeaaGreatTotals.lean).
  GIVEN WITH THE SEED: the statements are not yours to turn. If you find one false, say at which input.
  Laid BY PROGRAM, IN A SANDBOX (cutbox-rows.mjs): the forced cells as the released guide's own fill.sh prints them over the translation 2b7e8bf307e9f7ba… (all of the seat's roots in one cut). By AI agents, Wed Nov 11 2026. No macro, syntax, notation, axiom, sorry.
-/
import Derived.Test.YtgajjphjkbnaeaaGreatChecked
import GoSem.Claim
import GoSem.ClaimJoined
import GoSem.ClaimMapViews
import Derived.JoinedTies
import Derived.KernelRfl
namespace Go.Proofs.YtgajjphjkbnaeaaGreat
/- THE CELL 'sum', in the pinned program and in every row, IS THE sha256 OF THE DUMP (.gsa) THAT YtgajjphjkbnaeaaGreatProg.lean LOADS. Nothing in Lean hashes anything: it is a label: what it is worth is what the hold of that sum in a sandbox is worth. -/
noncomputable def Tryz.pinned : Pinned := { name := "ytgajjphjkbnaeaagreat", sum := "2b7e8bf307e9f7ba2a6c0334e86ae0f97ddc5c4cd263e8ae18a001f57ba15ab7", checked := Tryz.checked }
namespace Rows
def none {H : Type} : Left H := { results := [], args := [] }

/-- 'armoirelaw19.DirTree': WHATEVER THE INPUT: true; the input reads as it did. -/
def dirTreeSpec : ChangeSpec := { name := "dirTree", fn := fun _ => fun
  | [d] => { results := [.lit (.bool true)], args := [d] }
  | _ => none }
def dirTreeRow : OpenClaim := { program := "ytgajjphjkbnaeaagreat", sum := "2b7e8bf307e9f7ba2a6c0334e86ae0f97ddc5c4cd263e8ae18a001f57ba15ab7", func := "armoire/armoirelaw19.DirTree", spec := "dirTree", inPlace := ["internal/bytealg.IndexByteString", "internal/bytealg.IndexByte", "internal/bytealg.Index", "internal/bytealg.abigen_runtime_cmpstring"], unfollowed := true, recurses := true, named := ["internal/bytealg.MaxLen"], plainKeys := false, apart := false }
def DirTreeSaid : Prop := dirTreeRow.holds Tryz.pinned (OpenSpec.ofChange dirTreeSpec)

/-- ITS FALSE NEIGHBOUR: 'it returns false'. Refute it at one input. -/
def dirTreeWrong : ChangeSpec := { name := "dirTree", fn := fun _ => fun
  | [d] => { results := [.lit (.bool false)], args := [d] }
  | _ => none }
def DirTreeWrongFalsely : Prop := dirTreeRow.holds Tryz.pinned (OpenSpec.ofChange dirTreeWrong)

/-- 'armoirelaw19.DirMoves': WHATEVER THE INPUT: true; the input reads as it did. -/
def dirMovesSpec : ChangeSpec := { name := "dirMoves", fn := fun _ => fun
  | [d1, d2, d3] => { results := [.lit (.bool true)], args := [d1, d2, d3] }
  | _ => none }
def dirMovesRow : OpenClaim := { program := "ytgajjphjkbnaeaagreat", sum := "2b7e8bf307e9f7ba2a6c0334e86ae0f97ddc5c4cd263e8ae18a001f57ba15ab7", func := "armoire/armoirelaw19.DirMoves", spec := "dirMoves", inPlace := ["internal/bytealg.IndexByteString", "internal/bytealg.IndexByte", "internal/bytealg.Index", "internal/bytealg.abigen_runtime_cmpstring"], unfollowed := true, recurses := true, named := ["internal/bytealg.MaxLen"], plainKeys := false, apart := false }
def DirMovesSaid : Prop := dirMovesRow.holds Tryz.pinned (OpenSpec.ofChange dirMovesSpec)

/-- ITS FALSE NEIGHBOUR: 'it returns false'. Refute it at one input. -/
def dirMovesWrong : ChangeSpec := { name := "dirMoves", fn := fun _ => fun
  | [d1, d2, d3] => { results := [.lit (.bool false)], args := [d1, d2, d3] }
  | _ => none }
def DirMovesWrongFalsely : Prop := dirMovesRow.holds Tryz.pinned (OpenSpec.ofChange dirMovesWrong)

/-- 'armoirelaw19.DirLinks': WHATEVER THE INPUT: true; the input reads as it did. -/
def dirLinksSpec : ChangeSpec := { name := "dirLinks", fn := fun _ => fun
  | [d1, d2, d3] => { results := [.lit (.bool true)], args := [d1, d2, d3] }
  | _ => none }
def dirLinksRow : OpenClaim := { program := "ytgajjphjkbnaeaagreat", sum := "2b7e8bf307e9f7ba2a6c0334e86ae0f97ddc5c4cd263e8ae18a001f57ba15ab7", func := "armoire/armoirelaw19.DirLinks", spec := "dirLinks", inPlace := ["internal/bytealg.IndexByteString", "internal/bytealg.IndexByte", "internal/bytealg.Index", "internal/bytealg.abigen_runtime_cmpstring"], unfollowed := true, recurses := true, named := ["internal/bytealg.MaxLen"], plainKeys := false, apart := false }
def DirLinksSaid : Prop := dirLinksRow.holds Tryz.pinned (OpenSpec.ofChange dirLinksSpec)

/-- ITS FALSE NEIGHBOUR: 'it returns false'. Refute it at one input. -/
def dirLinksWrong : ChangeSpec := { name := "dirLinks", fn := fun _ => fun
  | [d1, d2, d3] => { results := [.lit (.bool false)], args := [d1, d2, d3] }
  | _ => none }
def DirLinksWrongFalsely : Prop := dirLinksRow.holds Tryz.pinned (OpenSpec.ofChange dirLinksWrong)

/- THE SECOND FORM. 'bulk': how many values and letters a reading holds, each counted each time it is reached (what is shared counts as often as it is met; a slice's spare places count too). A statement '..UptoSaid' is the law's where the arguments, and the package variables that the reading takes, are together of bulk at most 1048576: NARROWER than '..Said'. Prove '..Said' where nothing that the law and all that it calls make is longer than what came in: it says more and counts as full. Else prove '..UptoSaid'. A law counts once. -/
mutual
def uptoBulk {H : Type} : DataW H → Nat
  | .lit (.string bytes) => bytes.length + 1
  | .lit _ => 1
  | .nil => 1
  | .ptr d => uptoBulk d + 1
  | .slice elems spare => uptoBulkAll elems + uptoBulkAll spare + 1
  | .agg parts => uptoBulkAll parts + 1
  | .iface _ d => uptoBulk d + 1
  | .map entries => uptoBulkEntries entries + 1
  | .held _ => 1
def uptoBulkAll {H : Type} : List (DataW H) → Nat
  | [] => 0
  | d :: r => uptoBulk d + uptoBulkAll r
def uptoBulkEntries {H : Type} : List (Lit × DataW H) → Nat
  | [] => 0
  | x :: r => uptoBulkEntry x + uptoBulkEntries r
def uptoBulkEntry {H : Type} : Lit × DataW H → Nat
  | (.string bytes, d) => bytes.length + uptoBulk d + 1
  | (_, d) => uptoBulk d + 1
 end
def uptoSmall : (H : Type) → List (DataW H) → Bool := fun _ ds => decide (uptoBulkAll ds ≤ 1048576)
def OpenSpec.upto (s : _root_.Go.ChangeSpec) : _root_.Go.OpenSpec := { _root_.Go.OpenSpec.ofChange s with cond := some uptoSmall }

/-- 'armoirelaw19.DirTree', WHERE WHAT IT READS IS OF BULK AT MOST 1048576: true; the input reads as it did. -/
def dirTreeUptoRow : OpenClaim := { program := "ytgajjphjkbnaeaagreat", sum := "2b7e8bf307e9f7ba2a6c0334e86ae0f97ddc5c4cd263e8ae18a001f57ba15ab7", func := "armoire/armoirelaw19.DirTree", spec := "dirTree", inPlace := ["internal/bytealg.IndexByteString", "internal/bytealg.IndexByte", "internal/bytealg.Index", "internal/bytealg.abigen_runtime_cmpstring"], unfollowed := true, recurses := true, named := ["internal/bytealg.MaxLen"], plainKeys := false, apart := false, narrowed := true }
def DirTreeUptoSaid : Prop := dirTreeUptoRow.holds Tryz.pinned (OpenSpec.upto dirTreeSpec)

/-- 'armoirelaw19.DirMoves', WHERE WHAT IT READS IS OF BULK AT MOST 1048576: true; the input reads as it did. -/
def dirMovesUptoRow : OpenClaim := { program := "ytgajjphjkbnaeaagreat", sum := "2b7e8bf307e9f7ba2a6c0334e86ae0f97ddc5c4cd263e8ae18a001f57ba15ab7", func := "armoire/armoirelaw19.DirMoves", spec := "dirMoves", inPlace := ["internal/bytealg.IndexByteString", "internal/bytealg.IndexByte", "internal/bytealg.Index", "internal/bytealg.abigen_runtime_cmpstring"], unfollowed := true, recurses := true, named := ["internal/bytealg.MaxLen"], plainKeys := false, apart := false, narrowed := true }
def DirMovesUptoSaid : Prop := dirMovesUptoRow.holds Tryz.pinned (OpenSpec.upto dirMovesSpec)

/-- 'armoirelaw19.DirLinks', WHERE WHAT IT READS IS OF BULK AT MOST 1048576: true; the input reads as it did. -/
def dirLinksUptoRow : OpenClaim := { program := "ytgajjphjkbnaeaagreat", sum := "2b7e8bf307e9f7ba2a6c0334e86ae0f97ddc5c4cd263e8ae18a001f57ba15ab7", func := "armoire/armoirelaw19.DirLinks", spec := "dirLinks", inPlace := ["internal/bytealg.IndexByteString", "internal/bytealg.IndexByte", "internal/bytealg.Index", "internal/bytealg.abigen_runtime_cmpstring"], unfollowed := true, recurses := true, named := ["internal/bytealg.MaxLen"], plainKeys := false, apart := false, narrowed := true }
def DirLinksUptoSaid : Prop := dirLinksUptoRow.holds Tryz.pinned (OpenSpec.upto dirLinksSpec)

end Rows
end Go.Proofs.YtgajjphjkbnaeaaGreat
