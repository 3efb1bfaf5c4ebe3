/-
  No cell of these rows narrows 'for every input' (looked for: loops, veiled, ifaces, maps, wideKeys, modest, calm, conditions, laid).
  DERIVED. THE GIVEN ROWS OF THIS SEAT. 5 by the template 'for every input the law returns true; each argument reads behind the call as it read before'; 0 by the template 'total and deterministic' (their statements: YtjjhfginmamlkaaGreatTotals.lean).
  GIVEN WITH THE SEED: the statements are not yours to turn. If you find one false, say at which input.
  Laid BY PROGRAM, IN A SANDBOX (cutbox-rows.mjs): the forced cells as the released guide's own fill.sh prints them over the translation a909717498752cb9… (all of the seat's roots in one cut). By AI agents, Wed Nov 11 2026. No macro, syntax, notation, axiom, sorry.
-/
import Derived.Test.YtjjhfginmamlkaaGreatChecked
import GoSem.Claim
import GoSem.ClaimJoined
import GoSem.ClaimMapViews
import Derived.JoinedTies
import Derived.KernelRfl
namespace Go.Proofs.YtjjhfginmamlkaaGreat
/- THE CELL 'sum', in the pinned program and in every row, IS THE sha256 OF THE DUMP (.gsa) THAT YtjjhfginmamlkaaGreatProg.lean LOADS. Nothing in Lean hashes anything: it is a label: what it is worth is what the hold of that sum in a sandbox is worth. -/
noncomputable def Tryz.pinned : Pinned := { name := "ytjjhfginmamlkaagreat", sum := "a909717498752cb986b9cdacd1cd30772d56d2911a9c302253845b59b9e1b797", checked := Tryz.checked }
namespace Rows
def none {H : Type} : Left H := { results := [], args := [] }

/-- 'armoirelaw18.ExtentGoes': WHATEVER THE INPUT: true; the input reads as it did. -/
def extentGoesSpec : ChangeSpec := { name := "extentGoes", fn := fun _ => fun
  | [d1, d2, d3] => { results := [.lit (.bool true)], args := [d1, d2, d3] }
  | _ => none }
def extentGoesRow : OpenClaim := { program := "ytjjhfginmamlkaagreat", sum := "a909717498752cb986b9cdacd1cd30772d56d2911a9c302253845b59b9e1b797", func := "armoire/armoirelaw18.ExtentGoes", spec := "extentGoes", inPlace := ["internal/bytealg.IndexByteString"], unfollowed := true, recurses := true, plainKeys := false, apart := false }
def ExtentGoesSaid : Prop := extentGoesRow.holds Tryz.pinned (OpenSpec.ofChange extentGoesSpec)

/-- ITS FALSE NEIGHBOUR: 'it returns false'. Refute it at one input. -/
def extentGoesWrong : ChangeSpec := { name := "extentGoes", fn := fun _ => fun
  | [d1, d2, d3] => { results := [.lit (.bool false)], args := [d1, d2, d3] }
  | _ => none }
def ExtentGoesWrongFalsely : Prop := extentGoesRow.holds Tryz.pinned (OpenSpec.ofChange extentGoesWrong)

/-- 'armoirelaw18.ExtentBytes': WHATEVER THE INPUT: true; the input reads as it did. -/
def extentBytesSpec : ChangeSpec := { name := "extentBytes", fn := fun _ => fun
  | [d] => { results := [.lit (.bool true)], args := [d] }
  | _ => none }
def extentBytesRow : OpenClaim := { program := "ytjjhfginmamlkaagreat", sum := "a909717498752cb986b9cdacd1cd30772d56d2911a9c302253845b59b9e1b797", func := "armoire/armoirelaw18.ExtentBytes", spec := "extentBytes", inPlace := ["internal/bytealg.IndexByteString"], unfollowed := true, recurses := true, plainKeys := false, apart := false }
def ExtentBytesSaid : Prop := extentBytesRow.holds Tryz.pinned (OpenSpec.ofChange extentBytesSpec)

/-- ITS FALSE NEIGHBOUR: 'it returns false'. Refute it at one input. -/
def extentBytesWrong : ChangeSpec := { name := "extentBytes", fn := fun _ => fun
  | [d] => { results := [.lit (.bool false)], args := [d] }
  | _ => none }
def ExtentBytesWrongFalsely : Prop := extentBytesRow.holds Tryz.pinned (OpenSpec.ofChange extentBytesWrong)

/-- 'armoirelaw18.ExtentApart': WHATEVER THE INPUT: true; the input reads as it did. -/
def extentApartSpec : ChangeSpec := { name := "extentApart", fn := fun _ => fun
  | [d] => { results := [.lit (.bool true)], args := [d] }
  | _ => none }
def extentApartRow : OpenClaim := { program := "ytjjhfginmamlkaagreat", sum := "a909717498752cb986b9cdacd1cd30772d56d2911a9c302253845b59b9e1b797", func := "armoire/armoirelaw18.ExtentApart", spec := "extentApart", inPlace := ["internal/bytealg.IndexByteString"], unfollowed := true, recurses := true, plainKeys := false, apart := false }
def ExtentApartSaid : Prop := extentApartRow.holds Tryz.pinned (OpenSpec.ofChange extentApartSpec)

/-- ITS FALSE NEIGHBOUR: 'it returns false'. Refute it at one input. -/
def extentApartWrong : ChangeSpec := { name := "extentApart", fn := fun _ => fun
  | [d] => { results := [.lit (.bool false)], args := [d] }
  | _ => none }
def ExtentApartWrongFalsely : Prop := extentApartRow.holds Tryz.pinned (OpenSpec.ofChange extentApartWrong)

/-- 'armoirelaw18.ExtentTouches': WHATEVER THE INPUT: true; the input reads as it did. -/
def extentTouchesSpec : ChangeSpec := { name := "extentTouches", fn := fun _ => fun
  | [d1, d2] => { results := [.lit (.bool true)], args := [d1, d2] }
  | _ => none }
def extentTouchesRow : OpenClaim := { program := "ytjjhfginmamlkaagreat", sum := "a909717498752cb986b9cdacd1cd30772d56d2911a9c302253845b59b9e1b797", func := "armoire/armoirelaw18.ExtentTouches", spec := "extentTouches", inPlace := ["internal/bytealg.IndexByteString"], unfollowed := true, recurses := true, plainKeys := false, apart := false }
def ExtentTouchesSaid : Prop := extentTouchesRow.holds Tryz.pinned (OpenSpec.ofChange extentTouchesSpec)

/-- ITS FALSE NEIGHBOUR: 'it returns false'. Refute it at one input. -/
def extentTouchesWrong : ChangeSpec := { name := "extentTouches", fn := fun _ => fun
  | [d1, d2] => { results := [.lit (.bool false)], args := [d1, d2] }
  | _ => none }
def ExtentTouchesWrongFalsely : Prop := extentTouchesRow.holds Tryz.pinned (OpenSpec.ofChange extentTouchesWrong)

/-- 'armoirelaw18.ExtentErrors': WHATEVER THE INPUT: true; the input reads as it did. -/
def extentErrorsSpec : ChangeSpec := { name := "extentErrors", fn := fun _ => fun
  | [d1, d2, d3] => { results := [.lit (.bool true)], args := [d1, d2, d3] }
  | _ => none }
def extentErrorsRow : OpenClaim := { program := "ytjjhfginmamlkaagreat", sum := "a909717498752cb986b9cdacd1cd30772d56d2911a9c302253845b59b9e1b797", func := "armoire/armoirelaw18.ExtentErrors", spec := "extentErrors", inPlace := ["internal/bytealg.IndexByteString"], unfollowed := true, recurses := true, plainKeys := false, apart := false }
def ExtentErrorsSaid : Prop := extentErrorsRow.holds Tryz.pinned (OpenSpec.ofChange extentErrorsSpec)

/-- ITS FALSE NEIGHBOUR: 'it returns false'. Refute it at one input. -/
def extentErrorsWrong : ChangeSpec := { name := "extentErrors", fn := fun _ => fun
  | [d1, d2, d3] => { results := [.lit (.bool false)], args := [d1, d2, d3] }
  | _ => none }
def ExtentErrorsWrongFalsely : Prop := extentErrorsRow.holds Tryz.pinned (OpenSpec.ofChange extentErrorsWrong)

/- THE SECOND FORM. 'bulk': how many values and letters a reading holds, each counted each time it is reached (what is shared counts as often as it is met; a slice's spare places count too). A statement '..UptoSaid' is the law's where the arguments, and the package variables that the reading takes, are together of bulk at most 1048576: NARROWER than '..Said'. Prove '..Said' where nothing that the law and all that it calls make is longer than what came in: it says more and counts as full. Else prove '..UptoSaid'. A law counts once. -/
mutual
def uptoBulk {H : Type} : DataW H → Nat
  | .lit (.string bytes) => bytes.length + 1
  | .lit _ => 1
  | .nil => 1
  | .ptr d => uptoBulk d + 1
  | .slice elems spare => uptoBulkAll elems + uptoBulkAll spare + 1
  | .agg parts => uptoBulkAll parts + 1
  | .iface _ d => uptoBulk d + 1
  | .map entries => uptoBulkEntries entries + 1
  | .held _ => 1
def uptoBulkAll {H : Type} : List (DataW H) → Nat
  | [] => 0
  | d :: r => uptoBulk d + uptoBulkAll r
def uptoBulkEntries {H : Type} : List (Lit × DataW H) → Nat
  | [] => 0
  | x :: r => uptoBulkEntry x + uptoBulkEntries r
def uptoBulkEntry {H : Type} : Lit × DataW H → Nat
  | (.string bytes, d) => bytes.length + uptoBulk d + 1
  | (_, d) => uptoBulk d + 1
 end
def uptoSmall : (H : Type) → List (DataW H) → Bool := fun _ ds => decide (uptoBulkAll ds ≤ 1048576)
def OpenSpec.upto (s : _root_.Go.ChangeSpec) : _root_.Go.OpenSpec := { _root_.Go.OpenSpec.ofChange s with cond := some uptoSmall }

/-- 'armoirelaw18.ExtentGoes', WHERE WHAT IT READS IS OF BULK AT MOST 1048576: true; the input reads as it did. -/
def extentGoesUptoRow : OpenClaim := { program := "ytjjhfginmamlkaagreat", sum := "a909717498752cb986b9cdacd1cd30772d56d2911a9c302253845b59b9e1b797", func := "armoire/armoirelaw18.ExtentGoes", spec := "extentGoes", inPlace := ["internal/bytealg.IndexByteString"], unfollowed := true, recurses := true, plainKeys := false, apart := false, narrowed := true }
def ExtentGoesUptoSaid : Prop := extentGoesUptoRow.holds Tryz.pinned (OpenSpec.upto extentGoesSpec)

/-- 'armoirelaw18.ExtentBytes', WHERE WHAT IT READS IS OF BULK AT MOST 1048576: true; the input reads as it did. -/
def extentBytesUptoRow : OpenClaim := { program := "ytjjhfginmamlkaagreat", sum := "a909717498752cb986b9cdacd1cd30772d56d2911a9c302253845b59b9e1b797", func := "armoire/armoirelaw18.ExtentBytes", spec := "extentBytes", inPlace := ["internal/bytealg.IndexByteString"], unfollowed := true, recurses := true, plainKeys := false, apart := false, narrowed := true }
def ExtentBytesUptoSaid : Prop := extentBytesUptoRow.holds Tryz.pinned (OpenSpec.upto extentBytesSpec)

/-- 'armoirelaw18.ExtentApart', WHERE WHAT IT READS IS OF BULK AT MOST 1048576: true; the input reads as it did. -/
def extentApartUptoRow : OpenClaim := { program := "ytjjhfginmamlkaagreat", sum := "a909717498752cb986b9cdacd1cd30772d56d2911a9c302253845b59b9e1b797", func := "armoire/armoirelaw18.ExtentApart", spec := "extentApart", inPlace := ["internal/bytealg.IndexByteString"], unfollowed := true, recurses := true, plainKeys := false, apart := false, narrowed := true }
def ExtentApartUptoSaid : Prop := extentApartUptoRow.holds Tryz.pinned (OpenSpec.upto extentApartSpec)

/-- 'armoirelaw18.ExtentTouches', WHERE WHAT IT READS IS OF BULK AT MOST 1048576: true; the input reads as it did. -/
def extentTouchesUptoRow : OpenClaim := { program := "ytjjhfginmamlkaagreat", sum := "a909717498752cb986b9cdacd1cd30772d56d2911a9c302253845b59b9e1b797", func := "armoire/armoirelaw18.ExtentTouches", spec := "extentTouches", inPlace := ["internal/bytealg.IndexByteString"], unfollowed := true, recurses := true, plainKeys := false, apart := false, narrowed := true }
def ExtentTouchesUptoSaid : Prop := extentTouchesUptoRow.holds Tryz.pinned (OpenSpec.upto extentTouchesSpec)

/-- 'armoirelaw18.ExtentErrors', WHERE WHAT IT READS IS OF BULK AT MOST 1048576: true; the input reads as it did. -/
def extentErrorsUptoRow : OpenClaim := { program := "ytjjhfginmamlkaagreat", sum := "a909717498752cb986b9cdacd1cd30772d56d2911a9c302253845b59b9e1b797", func := "armoire/armoirelaw18.ExtentErrors", spec := "extentErrors", inPlace := ["internal/bytealg.IndexByteString"], unfollowed := true, recurses := true, plainKeys := false, apart := false, narrowed := true }
def ExtentErrorsUptoSaid : Prop := extentErrorsUptoRow.holds Tryz.pinned (OpenSpec.upto extentErrorsSpec)

end Rows
end Go.Proofs.YtjjhfginmamlkaaGreat
