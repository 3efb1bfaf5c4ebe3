/-
  No cell of these rows narrows 'for every input' (looked for: loops, veiled, ifaces, maps, wideKeys, modest, calm, conditions, laid).
  DERIVED. THE GIVEN ROWS OF THIS SEAT. 5 by the template 'for every input the law returns true; each argument reads behind the call as it read before'; 0 by the template 'total and deterministic' (their statements: YtckcdmkgmbicfaaGreatTotals.lean).
  GIVEN WITH THE SEED: the statements are not yours to turn. If you find one false, say at which input.
  Laid BY PROGRAM, IN A SANDBOX (cutbox-rows.mjs): the forced cells as the released guide's own fill.sh prints them over the translation 2a41bde748d1ed2a… (all of the seat's roots in one cut). By AI agents, Wed Nov 11 2026. No macro, syntax, notation, axiom, sorry.
-/
import Derived.Test.YtckcdmkgmbicfaaGreatChecked
import GoSem.Claim
import GoSem.ClaimJoined
import GoSem.ClaimMapViews
import Derived.JoinedTies
import Derived.KernelRfl
namespace Go.Proofs.YtckcdmkgmbicfaaGreat
/- THE CELL 'sum', in the pinned program and in every row, IS THE sha256 OF THE DUMP (.gsa) THAT YtckcdmkgmbicfaaGreatProg.lean LOADS. Nothing in Lean hashes anything: it is a label: what it is worth is what the hold of that sum in a sandbox is worth. -/
noncomputable def Tryz.pinned : Pinned := { name := "ytckcdmkgmbicfaagreat", sum := "2a41bde748d1ed2ac70d49fc7986f4653871be7467c26f6ed79c1a8961d0090c", checked := Tryz.checked }
namespace Rows
def none {H : Type} : Left H := { results := [], args := [] }

/-- 'armoirelaw07.WalMakes': WHATEVER THE INPUT: true; the input reads as it did. -/
def walMakesSpec : ChangeSpec := { name := "walMakes", fn := fun _ => fun
  | [d1, d2, d3, d4] => { results := [.lit (.bool true)], args := [d1, d2, d3, d4] }
  | _ => none }
def walMakesRow : OpenClaim := { program := "ytckcdmkgmbicfaagreat", sum := "2a41bde748d1ed2ac70d49fc7986f4653871be7467c26f6ed79c1a8961d0090c", func := "armoire/armoirelaw07.WalMakes", spec := "walMakes", unfollowed := true, recurses := true, apart := false }
def WalMakesSaid : Prop := walMakesRow.holds Tryz.pinned (OpenSpec.ofChange walMakesSpec)

/-- ITS FALSE NEIGHBOUR: 'it returns false'. Refute it at one input. -/
def walMakesWrong : ChangeSpec := { name := "walMakes", fn := fun _ => fun
  | [d1, d2, d3, d4] => { results := [.lit (.bool false)], args := [d1, d2, d3, d4] }
  | _ => none }
def WalMakesWrongFalsely : Prop := walMakesRow.holds Tryz.pinned (OpenSpec.ofChange walMakesWrong)

/-- 'armoirelaw07.WalGoes': WHATEVER THE INPUT: true; the input reads as it did. -/
def walGoesSpec : ChangeSpec := { name := "walGoes", fn := fun _ => fun
  | [d1, d2, d3] => { results := [.lit (.bool true)], args := [d1, d2, d3] }
  | _ => none }
def walGoesRow : OpenClaim := { program := "ytckcdmkgmbicfaagreat", sum := "2a41bde748d1ed2ac70d49fc7986f4653871be7467c26f6ed79c1a8961d0090c", func := "armoire/armoirelaw07.WalGoes", spec := "walGoes", unfollowed := true, recurses := true, apart := false }
def WalGoesSaid : Prop := walGoesRow.holds Tryz.pinned (OpenSpec.ofChange walGoesSpec)

/-- ITS FALSE NEIGHBOUR: 'it returns false'. Refute it at one input. -/
def walGoesWrong : ChangeSpec := { name := "walGoes", fn := fun _ => fun
  | [d1, d2, d3] => { results := [.lit (.bool false)], args := [d1, d2, d3] }
  | _ => none }
def WalGoesWrongFalsely : Prop := walGoesRow.holds Tryz.pinned (OpenSpec.ofChange walGoesWrong)

/-- 'armoirelaw07.WalCuts': WHATEVER THE INPUT: true; the input reads as it did. -/
def walCutsSpec : ChangeSpec := { name := "walCuts", fn := fun _ => fun
  | [d1, d2, d3] => { results := [.lit (.bool true)], args := [d1, d2, d3] }
  | _ => none }
def walCutsRow : OpenClaim := { program := "ytckcdmkgmbicfaagreat", sum := "2a41bde748d1ed2ac70d49fc7986f4653871be7467c26f6ed79c1a8961d0090c", func := "armoire/armoirelaw07.WalCuts", spec := "walCuts", unfollowed := true, recurses := true, apart := false }
def WalCutsSaid : Prop := walCutsRow.holds Tryz.pinned (OpenSpec.ofChange walCutsSpec)

/-- ITS FALSE NEIGHBOUR: 'it returns false'. Refute it at one input. -/
def walCutsWrong : ChangeSpec := { name := "walCuts", fn := fun _ => fun
  | [d1, d2, d3] => { results := [.lit (.bool false)], args := [d1, d2, d3] }
  | _ => none }
def WalCutsWrongFalsely : Prop := walCutsRow.holds Tryz.pinned (OpenSpec.ofChange walCutsWrong)

/-- 'armoirelaw07.WalRound': WHATEVER THE INPUT: true; the input reads as it did. -/
def walRoundSpec : ChangeSpec := { name := "walRound", fn := fun _ => fun
  | [d1, d2, d3] => { results := [.lit (.bool true)], args := [d1, d2, d3] }
  | _ => none }
def walRoundRow : OpenClaim := { program := "ytckcdmkgmbicfaagreat", sum := "2a41bde748d1ed2ac70d49fc7986f4653871be7467c26f6ed79c1a8961d0090c", func := "armoire/armoirelaw07.WalRound", spec := "walRound", unfollowed := true, recurses := true, apart := false }
def WalRoundSaid : Prop := walRoundRow.holds Tryz.pinned (OpenSpec.ofChange walRoundSpec)

/-- ITS FALSE NEIGHBOUR: 'it returns false'. Refute it at one input. -/
def walRoundWrong : ChangeSpec := { name := "walRound", fn := fun _ => fun
  | [d1, d2, d3] => { results := [.lit (.bool false)], args := [d1, d2, d3] }
  | _ => none }
def WalRoundWrongFalsely : Prop := walRoundRow.holds Tryz.pinned (OpenSpec.ofChange walRoundWrong)

/-- 'armoirelaw07.WalWhole': WHATEVER THE INPUT: true; the input reads as it did. -/
def walWholeSpec : ChangeSpec := { name := "walWhole", fn := fun _ => fun
  | [d1, d2, d3] => { results := [.lit (.bool true)], args := [d1, d2, d3] }
  | _ => none }
def walWholeRow : OpenClaim := { program := "ytckcdmkgmbicfaagreat", sum := "2a41bde748d1ed2ac70d49fc7986f4653871be7467c26f6ed79c1a8961d0090c", func := "armoire/armoirelaw07.WalWhole", spec := "walWhole", unfollowed := true, recurses := true, apart := false }
def WalWholeSaid : Prop := walWholeRow.holds Tryz.pinned (OpenSpec.ofChange walWholeSpec)

/-- ITS FALSE NEIGHBOUR: 'it returns false'. Refute it at one input. -/
def walWholeWrong : ChangeSpec := { name := "walWhole", fn := fun _ => fun
  | [d1, d2, d3] => { results := [.lit (.bool false)], args := [d1, d2, d3] }
  | _ => none }
def WalWholeWrongFalsely : Prop := walWholeRow.holds Tryz.pinned (OpenSpec.ofChange walWholeWrong)

/- THE SECOND FORM. 'bulk': how many values and letters a reading holds, each counted each time it is reached (what is shared counts as often as it is met; a slice's spare places count too). A statement '..UptoSaid' is the law's where the arguments, and the package variables that the reading takes, are together of bulk at most 1048576: NARROWER than '..Said'. Prove '..Said' where nothing that the law and all that it calls make is longer than what came in: it says more and counts as full. Else prove '..UptoSaid'. A law counts once. -/
mutual
def uptoBulk {H : Type} : DataW H → Nat
  | .lit (.string bytes) => bytes.length + 1
  | .lit _ => 1
  | .nil => 1
  | .ptr d => uptoBulk d + 1
  | .slice elems spare => uptoBulkAll elems + uptoBulkAll spare + 1
  | .agg parts => uptoBulkAll parts + 1
  | .iface _ d => uptoBulk d + 1
  | .map entries => uptoBulkEntries entries + 1
  | .held _ => 1
def uptoBulkAll {H : Type} : List (DataW H) → Nat
  | [] => 0
  | d :: r => uptoBulk d + uptoBulkAll r
def uptoBulkEntries {H : Type} : List (Lit × DataW H) → Nat
  | [] => 0
  | x :: r => uptoBulkEntry x + uptoBulkEntries r
def uptoBulkEntry {H : Type} : Lit × DataW H → Nat
  | (.string bytes, d) => bytes.length + uptoBulk d + 1
  | (_, d) => uptoBulk d + 1
 end
def uptoSmall : (H : Type) → List (DataW H) → Bool := fun _ ds => decide (uptoBulkAll ds ≤ 1048576)
def OpenSpec.upto (s : _root_.Go.ChangeSpec) : _root_.Go.OpenSpec := { _root_.Go.OpenSpec.ofChange s with cond := some uptoSmall }

/-- 'armoirelaw07.WalMakes', WHERE WHAT IT READS IS OF BULK AT MOST 1048576: true; the input reads as it did. -/
def walMakesUptoRow : OpenClaim := { program := "ytckcdmkgmbicfaagreat", sum := "2a41bde748d1ed2ac70d49fc7986f4653871be7467c26f6ed79c1a8961d0090c", func := "armoire/armoirelaw07.WalMakes", spec := "walMakes", unfollowed := true, recurses := true, apart := false, narrowed := true }
def WalMakesUptoSaid : Prop := walMakesUptoRow.holds Tryz.pinned (OpenSpec.upto walMakesSpec)

/-- 'armoirelaw07.WalGoes', WHERE WHAT IT READS IS OF BULK AT MOST 1048576: true; the input reads as it did. -/
def walGoesUptoRow : OpenClaim := { program := "ytckcdmkgmbicfaagreat", sum := "2a41bde748d1ed2ac70d49fc7986f4653871be7467c26f6ed79c1a8961d0090c", func := "armoire/armoirelaw07.WalGoes", spec := "walGoes", unfollowed := true, recurses := true, apart := false, narrowed := true }
def WalGoesUptoSaid : Prop := walGoesUptoRow.holds Tryz.pinned (OpenSpec.upto walGoesSpec)

/-- 'armoirelaw07.WalCuts', WHERE WHAT IT READS IS OF BULK AT MOST 1048576: true; the input reads as it did. -/
def walCutsUptoRow : OpenClaim := { program := "ytckcdmkgmbicfaagreat", sum := "2a41bde748d1ed2ac70d49fc7986f4653871be7467c26f6ed79c1a8961d0090c", func := "armoire/armoirelaw07.WalCuts", spec := "walCuts", unfollowed := true, recurses := true, apart := false, narrowed := true }
def WalCutsUptoSaid : Prop := walCutsUptoRow.holds Tryz.pinned (OpenSpec.upto walCutsSpec)

/-- 'armoirelaw07.WalRound', WHERE WHAT IT READS IS OF BULK AT MOST 1048576: true; the input reads as it did. -/
def walRoundUptoRow : OpenClaim := { program := "ytckcdmkgmbicfaagreat", sum := "2a41bde748d1ed2ac70d49fc7986f4653871be7467c26f6ed79c1a8961d0090c", func := "armoire/armoirelaw07.WalRound", spec := "walRound", unfollowed := true, recurses := true, apart := false, narrowed := true }
def WalRoundUptoSaid : Prop := walRoundUptoRow.holds Tryz.pinned (OpenSpec.upto walRoundSpec)

/-- 'armoirelaw07.WalWhole', WHERE WHAT IT READS IS OF BULK AT MOST 1048576: true; the input reads as it did. -/
def walWholeUptoRow : OpenClaim := { program := "ytckcdmkgmbicfaagreat", sum := "2a41bde748d1ed2ac70d49fc7986f4653871be7467c26f6ed79c1a8961d0090c", func := "armoire/armoirelaw07.WalWhole", spec := "walWhole", unfollowed := true, recurses := true, apart := false, narrowed := true }
def WalWholeUptoSaid : Prop := walWholeUptoRow.holds Tryz.pinned (OpenSpec.upto walWholeSpec)

end Rows
end Go.Proofs.YtckcdmkgmbicfaaGreat
