/-
  No cell of these rows narrows 'for every input' (looked for: loops, veiled, ifaces, maps, wideKeys, modest, calm, conditions, laid).
  DERIVED. THE GIVEN ROWS OF THIS SEAT. 6 by the template 'for every input the law returns true; each argument reads behind the call as it read before'; 0 by the template 'total and deterministic' (their statements: YtjlglnhmkheidaaGreatTotals.lean).
  GIVEN WITH THE SEED: the statements are not yours to turn. If you find one false, say at which input.
  Laid BY PROGRAM, IN A SANDBOX (cutbox-rows.mjs): the forced cells as the released guide's own fill.sh prints them over the translation eda21cd732103a2b… (all of the seat's roots in one cut). By AI agents, Wed Nov 11 2026. No macro, syntax, notation, axiom, sorry.
-/
import Derived.Test.YtjlglnhmkheidaaGreatChecked
import GoSem.Claim
import GoSem.ClaimJoined
import GoSem.ClaimMapViews
import Derived.JoinedTies
import Derived.KernelRfl
namespace Go.Proofs.YtjlglnhmkheidaaGreat
/- THE CELL 'sum', in the pinned program and in every row, IS THE sha256 OF THE DUMP (.gsa) THAT YtjlglnhmkheidaaGreatProg.lean LOADS. Nothing in Lean hashes anything: it is a label: what it is worth is what the hold of that sum in a sandbox is worth. -/
noncomputable def Tryz.pinned : Pinned := { name := "ytjlglnhmkheidaagreat", sum := "eda21cd732103a2b32782f9e44735db23dc4f3fa815016107877f22898c78bb4", checked := Tryz.checked }
namespace Rows
def none {H : Type} : Left H := { results := [], args := [] }

/-- 'armoirelaw14.ViewGets': WHATEVER THE INPUT: true; the input reads as it did. -/
def viewGetsSpec : ChangeSpec := { name := "viewGets", fn := fun _ => fun
  | [d1, d2, d3] => { results := [.lit (.bool true)], args := [d1, d2, d3] }
  | _ => none }
def viewGetsRow : OpenClaim := { program := "ytjlglnhmkheidaagreat", sum := "eda21cd732103a2b32782f9e44735db23dc4f3fa815016107877f22898c78bb4", func := "armoire/armoirelaw14.ViewGets", spec := "viewGets", inPlace := ["internal/bytealg.IndexByteString", "internal/bytealg.IndexByte", "internal/bytealg.Index", "internal/bytealg.abigen_runtime_cmpstring"], unfollowed := true, recurses := true, named := ["internal/bytealg.MaxLen"], plainKeys := false, apart := false }
def ViewGetsSaid : Prop := viewGetsRow.holds Tryz.pinned (OpenSpec.ofChange viewGetsSpec)

/-- ITS FALSE NEIGHBOUR: 'it returns false'. Refute it at one input. -/
def viewGetsWrong : ChangeSpec := { name := "viewGets", fn := fun _ => fun
  | [d1, d2, d3] => { results := [.lit (.bool false)], args := [d1, d2, d3] }
  | _ => none }
def ViewGetsWrongFalsely : Prop := viewGetsRow.holds Tryz.pinned (OpenSpec.ofChange viewGetsWrong)

/-- 'armoirelaw14.ViewNames': WHATEVER THE INPUT: true; the input reads as it did. -/
def viewNamesSpec : ChangeSpec := { name := "viewNames", fn := fun _ => fun
  | [d1, d2, d3, d4] => { results := [.lit (.bool true)], args := [d1, d2, d3, d4] }
  | _ => none }
def viewNamesRow : OpenClaim := { program := "ytjlglnhmkheidaagreat", sum := "eda21cd732103a2b32782f9e44735db23dc4f3fa815016107877f22898c78bb4", func := "armoire/armoirelaw14.ViewNames", spec := "viewNames", inPlace := ["internal/bytealg.IndexByteString", "internal/bytealg.IndexByte", "internal/bytealg.Index", "internal/bytealg.abigen_runtime_cmpstring"], unfollowed := true, recurses := true, named := ["internal/bytealg.MaxLen"], plainKeys := false, apart := false }
def ViewNamesSaid : Prop := viewNamesRow.holds Tryz.pinned (OpenSpec.ofChange viewNamesSpec)

/-- ITS FALSE NEIGHBOUR: 'it returns false'. Refute it at one input. -/
def viewNamesWrong : ChangeSpec := { name := "viewNames", fn := fun _ => fun
  | [d1, d2, d3, d4] => { results := [.lit (.bool false)], args := [d1, d2, d3, d4] }
  | _ => none }
def ViewNamesWrongFalsely : Prop := viewNamesRow.holds Tryz.pinned (OpenSpec.ofChange viewNamesWrong)

/-- 'armoirelaw14.ViewSteps': WHATEVER THE INPUT: true; the input reads as it did. -/
def viewStepsSpec : ChangeSpec := { name := "viewSteps", fn := fun _ => fun
  | [d1, d2] => { results := [.lit (.bool true)], args := [d1, d2] }
  | _ => none }
def viewStepsRow : OpenClaim := { program := "ytjlglnhmkheidaagreat", sum := "eda21cd732103a2b32782f9e44735db23dc4f3fa815016107877f22898c78bb4", func := "armoire/armoirelaw14.ViewSteps", spec := "viewSteps", inPlace := ["internal/bytealg.IndexByteString", "internal/bytealg.IndexByte", "internal/bytealg.Index", "internal/bytealg.abigen_runtime_cmpstring"], unfollowed := true, recurses := true, named := ["internal/bytealg.MaxLen"], plainKeys := false, apart := false }
def ViewStepsSaid : Prop := viewStepsRow.holds Tryz.pinned (OpenSpec.ofChange viewStepsSpec)

/-- ITS FALSE NEIGHBOUR: 'it returns false'. Refute it at one input. -/
def viewStepsWrong : ChangeSpec := { name := "viewSteps", fn := fun _ => fun
  | [d1, d2] => { results := [.lit (.bool false)], args := [d1, d2] }
  | _ => none }
def ViewStepsWrongFalsely : Prop := viewStepsRow.holds Tryz.pinned (OpenSpec.ofChange viewStepsWrong)

/-- 'armoirelaw14.ViewLays': WHATEVER THE INPUT: true; the input reads as it did. -/
def viewLaysSpec : ChangeSpec := { name := "viewLays", fn := fun _ => fun
  | [d1, d2, d3, d4] => { results := [.lit (.bool true)], args := [d1, d2, d3, d4] }
  | _ => none }
def viewLaysRow : OpenClaim := { program := "ytjlglnhmkheidaagreat", sum := "eda21cd732103a2b32782f9e44735db23dc4f3fa815016107877f22898c78bb4", func := "armoire/armoirelaw14.ViewLays", spec := "viewLays", inPlace := ["internal/bytealg.IndexByteString", "internal/bytealg.IndexByte", "internal/bytealg.Index", "internal/bytealg.abigen_runtime_cmpstring"], unfollowed := true, recurses := true, named := ["internal/bytealg.MaxLen"], plainKeys := false, apart := false }
def ViewLaysSaid : Prop := viewLaysRow.holds Tryz.pinned (OpenSpec.ofChange viewLaysSpec)

/-- ITS FALSE NEIGHBOUR: 'it returns false'. Refute it at one input. -/
def viewLaysWrong : ChangeSpec := { name := "viewLays", fn := fun _ => fun
  | [d1, d2, d3, d4] => { results := [.lit (.bool false)], args := [d1, d2, d3, d4] }
  | _ => none }
def ViewLaysWrongFalsely : Prop := viewLaysRow.holds Tryz.pinned (OpenSpec.ofChange viewLaysWrong)

/-- 'armoirelaw14.ViewErrors': WHATEVER THE INPUT: true; the input reads as it did. -/
def viewErrorsSpec : ChangeSpec := { name := "viewErrors", fn := fun _ => fun
  | [d1, d2, d3, d4] => { results := [.lit (.bool true)], args := [d1, d2, d3, d4] }
  | _ => none }
def viewErrorsRow : OpenClaim := { program := "ytjlglnhmkheidaagreat", sum := "eda21cd732103a2b32782f9e44735db23dc4f3fa815016107877f22898c78bb4", func := "armoire/armoirelaw14.ViewErrors", spec := "viewErrors", inPlace := ["internal/bytealg.IndexByteString", "internal/bytealg.IndexByte", "internal/bytealg.Index", "internal/bytealg.abigen_runtime_cmpstring"], unfollowed := true, recurses := true, named := ["internal/bytealg.MaxLen"], plainKeys := false, apart := false }
def ViewErrorsSaid : Prop := viewErrorsRow.holds Tryz.pinned (OpenSpec.ofChange viewErrorsSpec)

/-- ITS FALSE NEIGHBOUR: 'it returns false'. Refute it at one input. -/
def viewErrorsWrong : ChangeSpec := { name := "viewErrors", fn := fun _ => fun
  | [d1, d2, d3, d4] => { results := [.lit (.bool false)], args := [d1, d2, d3, d4] }
  | _ => none }
def ViewErrorsWrongFalsely : Prop := viewErrorsRow.holds Tryz.pinned (OpenSpec.ofChange viewErrorsWrong)

/-- 'armoirelaw14.ViewNone': WHATEVER THE INPUT: true; the input reads as it did. -/
def viewNoneSpec : ChangeSpec := { name := "viewNone", fn := fun _ => fun
  | [d1, d2, d3] => { results := [.lit (.bool true)], args := [d1, d2, d3] }
  | _ => none }
def viewNoneRow : OpenClaim := { program := "ytjlglnhmkheidaagreat", sum := "eda21cd732103a2b32782f9e44735db23dc4f3fa815016107877f22898c78bb4", func := "armoire/armoirelaw14.ViewNone", spec := "viewNone", inPlace := ["internal/bytealg.IndexByteString", "internal/bytealg.IndexByte", "internal/bytealg.Index", "internal/bytealg.abigen_runtime_cmpstring"], unfollowed := true, recurses := true, named := ["internal/bytealg.MaxLen"], plainKeys := false, apart := false }
def ViewNoneSaid : Prop := viewNoneRow.holds Tryz.pinned (OpenSpec.ofChange viewNoneSpec)

/-- ITS FALSE NEIGHBOUR: 'it returns false'. Refute it at one input. -/
def viewNoneWrong : ChangeSpec := { name := "viewNone", fn := fun _ => fun
  | [d1, d2, d3] => { results := [.lit (.bool false)], args := [d1, d2, d3] }
  | _ => none }
def ViewNoneWrongFalsely : Prop := viewNoneRow.holds Tryz.pinned (OpenSpec.ofChange viewNoneWrong)

/- THE SECOND FORM. 'bulk': how many values and letters a reading holds, each counted each time it is reached (what is shared counts as often as it is met; a slice's spare places count too). A statement '..UptoSaid' is the law's where the arguments, and the package variables that the reading takes, are together of bulk at most 1048576: NARROWER than '..Said'. Prove '..Said' where nothing that the law and all that it calls make is longer than what came in: it says more and counts as full. Else prove '..UptoSaid'. A law counts once. -/
mutual
def uptoBulk {H : Type} : DataW H → Nat
  | .lit (.string bytes) => bytes.length + 1
  | .lit _ => 1
  | .nil => 1
  | .ptr d => uptoBulk d + 1
  | .slice elems spare => uptoBulkAll elems + uptoBulkAll spare + 1
  | .agg parts => uptoBulkAll parts + 1
  | .iface _ d => uptoBulk d + 1
  | .map entries => uptoBulkEntries entries + 1
  | .held _ => 1
def uptoBulkAll {H : Type} : List (DataW H) → Nat
  | [] => 0
  | d :: r => uptoBulk d + uptoBulkAll r
def uptoBulkEntries {H : Type} : List (Lit × DataW H) → Nat
  | [] => 0
  | x :: r => uptoBulkEntry x + uptoBulkEntries r
def uptoBulkEntry {H : Type} : Lit × DataW H → Nat
  | (.string bytes, d) => bytes.length + uptoBulk d + 1
  | (_, d) => uptoBulk d + 1
 end
def uptoSmall : (H : Type) → List (DataW H) → Bool := fun _ ds => decide (uptoBulkAll ds ≤ 1048576)
def OpenSpec.upto (s : _root_.Go.ChangeSpec) : _root_.Go.OpenSpec := { _root_.Go.OpenSpec.ofChange s with cond := some uptoSmall }

/-- 'armoirelaw14.ViewGets', WHERE WHAT IT READS IS OF BULK AT MOST 1048576: true; the input reads as it did. -/
def viewGetsUptoRow : OpenClaim := { program := "ytjlglnhmkheidaagreat", sum := "eda21cd732103a2b32782f9e44735db23dc4f3fa815016107877f22898c78bb4", func := "armoire/armoirelaw14.ViewGets", spec := "viewGets", inPlace := ["internal/bytealg.IndexByteString", "internal/bytealg.IndexByte", "internal/bytealg.Index", "internal/bytealg.abigen_runtime_cmpstring"], unfollowed := true, recurses := true, named := ["internal/bytealg.MaxLen"], plainKeys := false, apart := false, narrowed := true }
def ViewGetsUptoSaid : Prop := viewGetsUptoRow.holds Tryz.pinned (OpenSpec.upto viewGetsSpec)

/-- 'armoirelaw14.ViewNames', WHERE WHAT IT READS IS OF BULK AT MOST 1048576: true; the input reads as it did. -/
def viewNamesUptoRow : OpenClaim := { program := "ytjlglnhmkheidaagreat", sum := "eda21cd732103a2b32782f9e44735db23dc4f3fa815016107877f22898c78bb4", func := "armoire/armoirelaw14.ViewNames", spec := "viewNames", inPlace := ["internal/bytealg.IndexByteString", "internal/bytealg.IndexByte", "internal/bytealg.Index", "internal/bytealg.abigen_runtime_cmpstring"], unfollowed := true, recurses := true, named := ["internal/bytealg.MaxLen"], plainKeys := false, apart := false, narrowed := true }
def ViewNamesUptoSaid : Prop := viewNamesUptoRow.holds Tryz.pinned (OpenSpec.upto viewNamesSpec)

/-- 'armoirelaw14.ViewSteps', WHERE WHAT IT READS IS OF BULK AT MOST 1048576: true; the input reads as it did. -/
def viewStepsUptoRow : OpenClaim := { program := "ytjlglnhmkheidaagreat", sum := "eda21cd732103a2b32782f9e44735db23dc4f3fa815016107877f22898c78bb4", func := "armoire/armoirelaw14.ViewSteps", spec := "viewSteps", inPlace := ["internal/bytealg.IndexByteString", "internal/bytealg.IndexByte", "internal/bytealg.Index", "internal/bytealg.abigen_runtime_cmpstring"], unfollowed := true, recurses := true, named := ["internal/bytealg.MaxLen"], plainKeys := false, apart := false, narrowed := true }
def ViewStepsUptoSaid : Prop := viewStepsUptoRow.holds Tryz.pinned (OpenSpec.upto viewStepsSpec)

/-- 'armoirelaw14.ViewLays', WHERE WHAT IT READS IS OF BULK AT MOST 1048576: true; the input reads as it did. -/
def viewLaysUptoRow : OpenClaim := { program := "ytjlglnhmkheidaagreat", sum := "eda21cd732103a2b32782f9e44735db23dc4f3fa815016107877f22898c78bb4", func := "armoire/armoirelaw14.ViewLays", spec := "viewLays", inPlace := ["internal/bytealg.IndexByteString", "internal/bytealg.IndexByte", "internal/bytealg.Index", "internal/bytealg.abigen_runtime_cmpstring"], unfollowed := true, recurses := true, named := ["internal/bytealg.MaxLen"], plainKeys := false, apart := false, narrowed := true }
def ViewLaysUptoSaid : Prop := viewLaysUptoRow.holds Tryz.pinned (OpenSpec.upto viewLaysSpec)

/-- 'armoirelaw14.ViewErrors', WHERE WHAT IT READS IS OF BULK AT MOST 1048576: true; the input reads as it did. -/
def viewErrorsUptoRow : OpenClaim := { program := "ytjlglnhmkheidaagreat", sum := "eda21cd732103a2b32782f9e44735db23dc4f3fa815016107877f22898c78bb4", func := "armoire/armoirelaw14.ViewErrors", spec := "viewErrors", inPlace := ["internal/bytealg.IndexByteString", "internal/bytealg.IndexByte", "internal/bytealg.Index", "internal/bytealg.abigen_runtime_cmpstring"], unfollowed := true, recurses := true, named := ["internal/bytealg.MaxLen"], plainKeys := false, apart := false, narrowed := true }
def ViewErrorsUptoSaid : Prop := viewErrorsUptoRow.holds Tryz.pinned (OpenSpec.upto viewErrorsSpec)

/-- 'armoirelaw14.ViewNone', WHERE WHAT IT READS IS OF BULK AT MOST 1048576: true; the input reads as it did. -/
def viewNoneUptoRow : OpenClaim := { program := "ytjlglnhmkheidaagreat", sum := "eda21cd732103a2b32782f9e44735db23dc4f3fa815016107877f22898c78bb4", func := "armoire/armoirelaw14.ViewNone", spec := "viewNone", inPlace := ["internal/bytealg.IndexByteString", "internal/bytealg.IndexByte", "internal/bytealg.Index", "internal/bytealg.abigen_runtime_cmpstring"], unfollowed := true, recurses := true, named := ["internal/bytealg.MaxLen"], plainKeys := false, apart := false, narrowed := true }
def ViewNoneUptoSaid : Prop := viewNoneUptoRow.holds Tryz.pinned (OpenSpec.upto viewNoneSpec)

end Rows
end Go.Proofs.YtjlglnhmkheidaaGreat
