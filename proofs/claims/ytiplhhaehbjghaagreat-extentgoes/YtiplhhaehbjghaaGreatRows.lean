/-
  No cell of these rows narrows 'for every input' (looked for: loops, veiled, ifaces, maps, wideKeys, modest, calm, conditions, laid).
  DERIVED. THE GIVEN ROWS OF THIS SEAT. 6 by the template 'for every input the law returns true; each argument reads behind the call as it read before'; 0 by the template 'total and deterministic' (their statements: YtiplhhaehbjghaaGreatTotals.lean).
  GIVEN WITH THE SEED: the statements are not yours to turn. If you find one false, say at which input.
  Laid BY PROGRAM, IN A SANDBOX (cutbox-rows.mjs): the forced cells as the released guide's own fill.sh prints them over the translation 812eac273ed1bbab… (all of the seat's roots in one cut). By AI agents, Wed Nov 11 2026. No macro, syntax, notation, axiom, sorry.
-/
import Derived.Test.YtiplhhaehbjghaaGreatChecked
import GoSem.Claim
import GoSem.ClaimJoined
import GoSem.ClaimMapViews
import Derived.JoinedTies
import Derived.KernelRfl
namespace Go.Proofs.YtiplhhaehbjghaaGreat
/- THE CELL 'sum', in the pinned program and in every row, IS THE sha256 OF THE DUMP (.gsa) THAT YtiplhhaehbjghaaGreatProg.lean LOADS. Nothing in Lean hashes anything: it is a label: what it is worth is what the hold of that sum in a sandbox is worth. -/
noncomputable def Tryz.pinned : Pinned := { name := "ytiplhhaehbjghaagreat", sum := "812eac273ed1bbab9e557dfbd6e5496eeb0d8146e16d272ab80f9a993f4eb7d9", checked := Tryz.checked }
namespace Rows
def none {H : Type} : Left H := { results := [], args := [] }

/-- 'armoirelaw17.InodeGoes': WHATEVER THE INPUT: true; the input reads as it did. -/
def inodeGoesSpec : ChangeSpec := { name := "inodeGoes", fn := fun _ => fun
  | [d1, d2, d3, d4] => { results := [.lit (.bool true)], args := [d1, d2, d3, d4] }
  | _ => none }
def inodeGoesRow : OpenClaim := { program := "ytiplhhaehbjghaagreat", sum := "812eac273ed1bbab9e557dfbd6e5496eeb0d8146e16d272ab80f9a993f4eb7d9", func := "armoire/armoirelaw17.InodeGoes", spec := "inodeGoes", inPlace := ["internal/bytealg.IndexByteString"], unfollowed := true, recurses := true, plainKeys := false, apart := false }
def InodeGoesSaid : Prop := inodeGoesRow.holds Tryz.pinned (OpenSpec.ofChange inodeGoesSpec)

/-- ITS FALSE NEIGHBOUR: 'it returns false'. Refute it at one input. -/
def inodeGoesWrong : ChangeSpec := { name := "inodeGoes", fn := fun _ => fun
  | [d1, d2, d3, d4] => { results := [.lit (.bool false)], args := [d1, d2, d3, d4] }
  | _ => none }
def InodeGoesWrongFalsely : Prop := inodeGoesRow.holds Tryz.pinned (OpenSpec.ofChange inodeGoesWrong)

/-- 'armoirelaw18.ExtentGoes': WHATEVER THE INPUT: true; the input reads as it did. -/
def extentGoesSpec : ChangeSpec := { name := "extentGoes", fn := fun _ => fun
  | [d1, d2, d3] => { results := [.lit (.bool true)], args := [d1, d2, d3] }
  | _ => none }
def extentGoesRow : OpenClaim := { program := "ytiplhhaehbjghaagreat", sum := "812eac273ed1bbab9e557dfbd6e5496eeb0d8146e16d272ab80f9a993f4eb7d9", func := "armoire/armoirelaw18.ExtentGoes", spec := "extentGoes", inPlace := ["internal/bytealg.IndexByteString"], unfollowed := true, recurses := true, plainKeys := false, apart := false }
def ExtentGoesSaid : Prop := extentGoesRow.holds Tryz.pinned (OpenSpec.ofChange extentGoesSpec)

/-- ITS FALSE NEIGHBOUR: 'it returns false'. Refute it at one input. -/
def extentGoesWrong : ChangeSpec := { name := "extentGoes", fn := fun _ => fun
  | [d1, d2, d3] => { results := [.lit (.bool false)], args := [d1, d2, d3] }
  | _ => none }
def ExtentGoesWrongFalsely : Prop := extentGoesRow.holds Tryz.pinned (OpenSpec.ofChange extentGoesWrong)

/-- 'armoirelaw19.DirGoes': WHATEVER THE INPUT: true; the input reads as it did. -/
def dirGoesSpec : ChangeSpec := { name := "dirGoes", fn := fun _ => fun
  | [d1, d2, d3] => { results := [.lit (.bool true)], args := [d1, d2, d3] }
  | _ => none }
def dirGoesRow : OpenClaim := { program := "ytiplhhaehbjghaagreat", sum := "812eac273ed1bbab9e557dfbd6e5496eeb0d8146e16d272ab80f9a993f4eb7d9", func := "armoire/armoirelaw19.DirGoes", spec := "dirGoes", inPlace := ["internal/bytealg.IndexByteString", "internal/bytealg.IndexByte", "internal/bytealg.Index", "internal/bytealg.abigen_runtime_cmpstring"], unfollowed := true, recurses := true, named := ["internal/bytealg.MaxLen"], plainKeys := false, apart := false }
def DirGoesSaid : Prop := dirGoesRow.holds Tryz.pinned (OpenSpec.ofChange dirGoesSpec)

/-- ITS FALSE NEIGHBOUR: 'it returns false'. Refute it at one input. -/
def dirGoesWrong : ChangeSpec := { name := "dirGoes", fn := fun _ => fun
  | [d1, d2, d3] => { results := [.lit (.bool false)], args := [d1, d2, d3] }
  | _ => none }
def DirGoesWrongFalsely : Prop := dirGoesRow.holds Tryz.pinned (OpenSpec.ofChange dirGoesWrong)

/-- 'armoirelaw19.DirMade': WHATEVER THE INPUT: true; the input reads as it did. -/
def dirMadeSpec : ChangeSpec := { name := "dirMade", fn := fun _ => fun
  | [d1, d2, d3] => { results := [.lit (.bool true)], args := [d1, d2, d3] }
  | _ => none }
def dirMadeRow : OpenClaim := { program := "ytiplhhaehbjghaagreat", sum := "812eac273ed1bbab9e557dfbd6e5496eeb0d8146e16d272ab80f9a993f4eb7d9", func := "armoire/armoirelaw19.DirMade", spec := "dirMade", inPlace := ["internal/bytealg.IndexByteString", "internal/bytealg.IndexByte", "internal/bytealg.Index", "internal/bytealg.abigen_runtime_cmpstring"], unfollowed := true, recurses := true, named := ["internal/bytealg.MaxLen"], plainKeys := false, apart := false }
def DirMadeSaid : Prop := dirMadeRow.holds Tryz.pinned (OpenSpec.ofChange dirMadeSpec)

/-- ITS FALSE NEIGHBOUR: 'it returns false'. Refute it at one input. -/
def dirMadeWrong : ChangeSpec := { name := "dirMade", fn := fun _ => fun
  | [d1, d2, d3] => { results := [.lit (.bool false)], args := [d1, d2, d3] }
  | _ => none }
def DirMadeWrongFalsely : Prop := dirMadeRow.holds Tryz.pinned (OpenSpec.ofChange dirMadeWrong)

/-- 'armoirelaw19.DirTouches': WHATEVER THE INPUT: true; the input reads as it did. -/
def dirTouchesSpec : ChangeSpec := { name := "dirTouches", fn := fun _ => fun
  | [d1, d2] => { results := [.lit (.bool true)], args := [d1, d2] }
  | _ => none }
def dirTouchesRow : OpenClaim := { program := "ytiplhhaehbjghaagreat", sum := "812eac273ed1bbab9e557dfbd6e5496eeb0d8146e16d272ab80f9a993f4eb7d9", func := "armoire/armoirelaw19.DirTouches", spec := "dirTouches", inPlace := ["internal/bytealg.IndexByteString", "internal/bytealg.IndexByte", "internal/bytealg.Index", "internal/bytealg.abigen_runtime_cmpstring"], unfollowed := true, recurses := true, named := ["internal/bytealg.MaxLen"], plainKeys := false, apart := false }
def DirTouchesSaid : Prop := dirTouchesRow.holds Tryz.pinned (OpenSpec.ofChange dirTouchesSpec)

/-- ITS FALSE NEIGHBOUR: 'it returns false'. Refute it at one input. -/
def dirTouchesWrong : ChangeSpec := { name := "dirTouches", fn := fun _ => fun
  | [d1, d2] => { results := [.lit (.bool false)], args := [d1, d2] }
  | _ => none }
def DirTouchesWrongFalsely : Prop := dirTouchesRow.holds Tryz.pinned (OpenSpec.ofChange dirTouchesWrong)

/-- 'armoirelaw19.DirErrors': WHATEVER THE INPUT: true; the input reads as it did. -/
def dirErrorsSpec : ChangeSpec := { name := "dirErrors", fn := fun _ => fun
  | [d1, d2, d3] => { results := [.lit (.bool true)], args := [d1, d2, d3] }
  | _ => none }
def dirErrorsRow : OpenClaim := { program := "ytiplhhaehbjghaagreat", sum := "812eac273ed1bbab9e557dfbd6e5496eeb0d8146e16d272ab80f9a993f4eb7d9", func := "armoire/armoirelaw19.DirErrors", spec := "dirErrors", inPlace := ["internal/bytealg.IndexByteString", "internal/bytealg.IndexByte", "internal/bytealg.Index", "internal/bytealg.abigen_runtime_cmpstring"], unfollowed := true, recurses := true, named := ["internal/bytealg.MaxLen"], plainKeys := false, apart := false }
def DirErrorsSaid : Prop := dirErrorsRow.holds Tryz.pinned (OpenSpec.ofChange dirErrorsSpec)

/-- ITS FALSE NEIGHBOUR: 'it returns false'. Refute it at one input. -/
def dirErrorsWrong : ChangeSpec := { name := "dirErrors", fn := fun _ => fun
  | [d1, d2, d3] => { results := [.lit (.bool false)], args := [d1, d2, d3] }
  | _ => none }
def DirErrorsWrongFalsely : Prop := dirErrorsRow.holds Tryz.pinned (OpenSpec.ofChange dirErrorsWrong)

/- THE SECOND FORM. 'bulk': how many values and letters a reading holds, each counted each time it is reached (what is shared counts as often as it is met; a slice's spare places count too). A statement '..UptoSaid' is the law's where the arguments, and the package variables that the reading takes, are together of bulk at most 1048576: NARROWER than '..Said'. Prove '..Said' where nothing that the law and all that it calls make is longer than what came in: it says more and counts as full. Else prove '..UptoSaid'. A law counts once. -/
mutual
def uptoBulk {H : Type} : DataW H → Nat
  | .lit (.string bytes) => bytes.length + 1
  | .lit _ => 1
  | .nil => 1
  | .ptr d => uptoBulk d + 1
  | .slice elems spare => uptoBulkAll elems + uptoBulkAll spare + 1
  | .agg parts => uptoBulkAll parts + 1
  | .iface _ d => uptoBulk d + 1
  | .map entries => uptoBulkEntries entries + 1
  | .held _ => 1
def uptoBulkAll {H : Type} : List (DataW H) → Nat
  | [] => 0
  | d :: r => uptoBulk d + uptoBulkAll r
def uptoBulkEntries {H : Type} : List (Lit × DataW H) → Nat
  | [] => 0
  | x :: r => uptoBulkEntry x + uptoBulkEntries r
def uptoBulkEntry {H : Type} : Lit × DataW H → Nat
  | (.string bytes, d) => bytes.length + uptoBulk d + 1
  | (_, d) => uptoBulk d + 1
 end
def uptoSmall : (H : Type) → List (DataW H) → Bool := fun _ ds => decide (uptoBulkAll ds ≤ 1048576)
def OpenSpec.upto (s : _root_.Go.ChangeSpec) : _root_.Go.OpenSpec := { _root_.Go.OpenSpec.ofChange s with cond := some uptoSmall }

/-- 'armoirelaw17.InodeGoes', WHERE WHAT IT READS IS OF BULK AT MOST 1048576: true; the input reads as it did. -/
def inodeGoesUptoRow : OpenClaim := { program := "ytiplhhaehbjghaagreat", sum := "812eac273ed1bbab9e557dfbd6e5496eeb0d8146e16d272ab80f9a993f4eb7d9", func := "armoire/armoirelaw17.InodeGoes", spec := "inodeGoes", inPlace := ["internal/bytealg.IndexByteString"], unfollowed := true, recurses := true, plainKeys := false, apart := false, narrowed := true }
def InodeGoesUptoSaid : Prop := inodeGoesUptoRow.holds Tryz.pinned (OpenSpec.upto inodeGoesSpec)

/-- 'armoirelaw18.ExtentGoes', WHERE WHAT IT READS IS OF BULK AT MOST 1048576: true; the input reads as it did. -/
def extentGoesUptoRow : OpenClaim := { program := "ytiplhhaehbjghaagreat", sum := "812eac273ed1bbab9e557dfbd6e5496eeb0d8146e16d272ab80f9a993f4eb7d9", func := "armoire/armoirelaw18.ExtentGoes", spec := "extentGoes", inPlace := ["internal/bytealg.IndexByteString"], unfollowed := true, recurses := true, plainKeys := false, apart := false, narrowed := true }
def ExtentGoesUptoSaid : Prop := extentGoesUptoRow.holds Tryz.pinned (OpenSpec.upto extentGoesSpec)

/-- 'armoirelaw19.DirGoes', WHERE WHAT IT READS IS OF BULK AT MOST 1048576: true; the input reads as it did. -/
def dirGoesUptoRow : OpenClaim := { program := "ytiplhhaehbjghaagreat", sum := "812eac273ed1bbab9e557dfbd6e5496eeb0d8146e16d272ab80f9a993f4eb7d9", func := "armoire/armoirelaw19.DirGoes", spec := "dirGoes", inPlace := ["internal/bytealg.IndexByteString", "internal/bytealg.IndexByte", "internal/bytealg.Index", "internal/bytealg.abigen_runtime_cmpstring"], unfollowed := true, recurses := true, named := ["internal/bytealg.MaxLen"], plainKeys := false, apart := false, narrowed := true }
def DirGoesUptoSaid : Prop := dirGoesUptoRow.holds Tryz.pinned (OpenSpec.upto dirGoesSpec)

/-- 'armoirelaw19.DirMade', WHERE WHAT IT READS IS OF BULK AT MOST 1048576: true; the input reads as it did. -/
def dirMadeUptoRow : OpenClaim := { program := "ytiplhhaehbjghaagreat", sum := "812eac273ed1bbab9e557dfbd6e5496eeb0d8146e16d272ab80f9a993f4eb7d9", func := "armoire/armoirelaw19.DirMade", spec := "dirMade", inPlace := ["internal/bytealg.IndexByteString", "internal/bytealg.IndexByte", "internal/bytealg.Index", "internal/bytealg.abigen_runtime_cmpstring"], unfollowed := true, recurses := true, named := ["internal/bytealg.MaxLen"], plainKeys := false, apart := false, narrowed := true }
def DirMadeUptoSaid : Prop := dirMadeUptoRow.holds Tryz.pinned (OpenSpec.upto dirMadeSpec)

/-- 'armoirelaw19.DirTouches', WHERE WHAT IT READS IS OF BULK AT MOST 1048576: true; the input reads as it did. -/
def dirTouchesUptoRow : OpenClaim := { program := "ytiplhhaehbjghaagreat", sum := "812eac273ed1bbab9e557dfbd6e5496eeb0d8146e16d272ab80f9a993f4eb7d9", func := "armoire/armoirelaw19.DirTouches", spec := "dirTouches", inPlace := ["internal/bytealg.IndexByteString", "internal/bytealg.IndexByte", "internal/bytealg.Index", "internal/bytealg.abigen_runtime_cmpstring"], unfollowed := true, recurses := true, named := ["internal/bytealg.MaxLen"], plainKeys := false, apart := false, narrowed := true }
def DirTouchesUptoSaid : Prop := dirTouchesUptoRow.holds Tryz.pinned (OpenSpec.upto dirTouchesSpec)

/-- 'armoirelaw19.DirErrors', WHERE WHAT IT READS IS OF BULK AT MOST 1048576: true; the input reads as it did. -/
def dirErrorsUptoRow : OpenClaim := { program := "ytiplhhaehbjghaagreat", sum := "812eac273ed1bbab9e557dfbd6e5496eeb0d8146e16d272ab80f9a993f4eb7d9", func := "armoire/armoirelaw19.DirErrors", spec := "dirErrors", inPlace := ["internal/bytealg.IndexByteString", "internal/bytealg.IndexByte", "internal/bytealg.Index", "internal/bytealg.abigen_runtime_cmpstring"], unfollowed := true, recurses := true, named := ["internal/bytealg.MaxLen"], plainKeys := false, apart := false, narrowed := true }
def DirErrorsUptoSaid : Prop := dirErrorsUptoRow.holds Tryz.pinned (OpenSpec.upto dirErrorsSpec)

end Rows
end Go.Proofs.YtiplhhaehbjghaaGreat
