/-
  No cell of these rows narrows 'for every input' (looked for: loops, veiled, ifaces, maps, wideKeys, modest, calm, conditions, laid).
  DERIVED. THE GIVEN ROWS OF THIS SEAT. 5 by the template 'for every input the law returns true; each argument reads behind the call as it read before'; 0 by the template 'total and deterministic' (their statements: YtkmckipfjahlcaaGreatTotals.lean).
  GIVEN WITH THE SEED: the statements are not yours to turn. If you find one false, say at which input.
  Laid BY PROGRAM, IN A SANDBOX (cutbox-rows.mjs): the forced cells as the released guide's own fill.sh prints them over the translation 308d2c89f0d5213e… (all of the seat's roots in one cut). By AI agents, Wed Nov 11 2026. No macro, syntax, notation, axiom, sorry.
-/
import Derived.Test.YtkmckipfjahlcaaGreatChecked
import GoSem.Claim
import GoSem.ClaimJoined
import GoSem.ClaimMapViews
import Derived.JoinedTies
import Derived.KernelRfl
namespace Go.Proofs.YtkmckipfjahlcaaGreat
/- THE CELL 'sum', in the pinned program and in every row, IS THE sha256 OF THE DUMP (.gsa) THAT YtkmckipfjahlcaaGreatProg.lean LOADS. Nothing in Lean hashes anything: it is a label: what it is worth is what the hold of that sum in a sandbox is worth. -/
noncomputable def Tryz.pinned : Pinned := { name := "ytkmckipfjahlcaagreat", sum := "308d2c89f0d5213e9e7979c6dfdd547b7e7b7ffaac72c1e5f68b6ed522db1b03", checked := Tryz.checked }
namespace Rows
def none {H : Type} : Left H := { results := [], args := [] }

/-- 'armoirelaw17.InodeGoes': WHATEVER THE INPUT: true; the input reads as it did. -/
def inodeGoesSpec : ChangeSpec := { name := "inodeGoes", fn := fun _ => fun
  | [d1, d2, d3, d4] => { results := [.lit (.bool true)], args := [d1, d2, d3, d4] }
  | _ => none }
def inodeGoesRow : OpenClaim := { program := "ytkmckipfjahlcaagreat", sum := "308d2c89f0d5213e9e7979c6dfdd547b7e7b7ffaac72c1e5f68b6ed522db1b03", func := "armoire/armoirelaw17.InodeGoes", spec := "inodeGoes", inPlace := ["internal/bytealg.IndexByteString"], unfollowed := true, recurses := true, plainKeys := false, apart := false }
def InodeGoesSaid : Prop := inodeGoesRow.holds Tryz.pinned (OpenSpec.ofChange inodeGoesSpec)

/-- ITS FALSE NEIGHBOUR: 'it returns false'. Refute it at one input. -/
def inodeGoesWrong : ChangeSpec := { name := "inodeGoes", fn := fun _ => fun
  | [d1, d2, d3, d4] => { results := [.lit (.bool false)], args := [d1, d2, d3, d4] }
  | _ => none }
def InodeGoesWrongFalsely : Prop := inodeGoesRow.holds Tryz.pinned (OpenSpec.ofChange inodeGoesWrong)

/-- 'armoirelaw17.InodeReads': WHATEVER THE INPUT: true; the input reads as it did. -/
def inodeReadsSpec : ChangeSpec := { name := "inodeReads", fn := fun _ => fun
  | [d1, d2, d3] => { results := [.lit (.bool true)], args := [d1, d2, d3] }
  | _ => none }
def inodeReadsRow : OpenClaim := { program := "ytkmckipfjahlcaagreat", sum := "308d2c89f0d5213e9e7979c6dfdd547b7e7b7ffaac72c1e5f68b6ed522db1b03", func := "armoire/armoirelaw17.InodeReads", spec := "inodeReads", inPlace := ["internal/bytealg.IndexByteString"], unfollowed := true, recurses := true, plainKeys := false, apart := false }
def InodeReadsSaid : Prop := inodeReadsRow.holds Tryz.pinned (OpenSpec.ofChange inodeReadsSpec)

/-- ITS FALSE NEIGHBOUR: 'it returns false'. Refute it at one input. -/
def inodeReadsWrong : ChangeSpec := { name := "inodeReads", fn := fun _ => fun
  | [d1, d2, d3] => { results := [.lit (.bool false)], args := [d1, d2, d3] }
  | _ => none }
def InodeReadsWrongFalsely : Prop := inodeReadsRow.holds Tryz.pinned (OpenSpec.ofChange inodeReadsWrong)

/-- 'armoirelaw17.InodeWrites': WHATEVER THE INPUT: true; the input reads as it did. -/
def inodeWritesSpec : ChangeSpec := { name := "inodeWrites", fn := fun _ => fun
  | [d1, d2, d3] => { results := [.lit (.bool true)], args := [d1, d2, d3] }
  | _ => none }
def inodeWritesRow : OpenClaim := { program := "ytkmckipfjahlcaagreat", sum := "308d2c89f0d5213e9e7979c6dfdd547b7e7b7ffaac72c1e5f68b6ed522db1b03", func := "armoire/armoirelaw17.InodeWrites", spec := "inodeWrites", inPlace := ["internal/bytealg.IndexByteString"], unfollowed := true, recurses := true, plainKeys := false, apart := false }
def InodeWritesSaid : Prop := inodeWritesRow.holds Tryz.pinned (OpenSpec.ofChange inodeWritesSpec)

/-- ITS FALSE NEIGHBOUR: 'it returns false'. Refute it at one input. -/
def inodeWritesWrong : ChangeSpec := { name := "inodeWrites", fn := fun _ => fun
  | [d1, d2, d3] => { results := [.lit (.bool false)], args := [d1, d2, d3] }
  | _ => none }
def InodeWritesWrongFalsely : Prop := inodeWritesRow.holds Tryz.pinned (OpenSpec.ofChange inodeWritesWrong)

/-- 'armoirelaw17.InodeGone': WHATEVER THE INPUT: true; the input reads as it did. -/
def inodeGoneSpec : ChangeSpec := { name := "inodeGone", fn := fun _ => fun
  | [d1, d2, d3] => { results := [.lit (.bool true)], args := [d1, d2, d3] }
  | _ => none }
def inodeGoneRow : OpenClaim := { program := "ytkmckipfjahlcaagreat", sum := "308d2c89f0d5213e9e7979c6dfdd547b7e7b7ffaac72c1e5f68b6ed522db1b03", func := "armoire/armoirelaw17.InodeGone", spec := "inodeGone", inPlace := ["internal/bytealg.IndexByteString"], unfollowed := true, recurses := true, plainKeys := false, apart := false }
def InodeGoneSaid : Prop := inodeGoneRow.holds Tryz.pinned (OpenSpec.ofChange inodeGoneSpec)

/-- ITS FALSE NEIGHBOUR: 'it returns false'. Refute it at one input. -/
def inodeGoneWrong : ChangeSpec := { name := "inodeGone", fn := fun _ => fun
  | [d1, d2, d3] => { results := [.lit (.bool false)], args := [d1, d2, d3] }
  | _ => none }
def InodeGoneWrongFalsely : Prop := inodeGoneRow.holds Tryz.pinned (OpenSpec.ofChange inodeGoneWrong)

/-- 'armoirelaw17.InodeErrors': WHATEVER THE INPUT: true; the input reads as it did. -/
def inodeErrorsSpec : ChangeSpec := { name := "inodeErrors", fn := fun _ => fun
  | [d1, d2, d3] => { results := [.lit (.bool true)], args := [d1, d2, d3] }
  | _ => none }
def inodeErrorsRow : OpenClaim := { program := "ytkmckipfjahlcaagreat", sum := "308d2c89f0d5213e9e7979c6dfdd547b7e7b7ffaac72c1e5f68b6ed522db1b03", func := "armoire/armoirelaw17.InodeErrors", spec := "inodeErrors", inPlace := ["internal/bytealg.IndexByteString"], unfollowed := true, recurses := true, plainKeys := false, apart := false }
def InodeErrorsSaid : Prop := inodeErrorsRow.holds Tryz.pinned (OpenSpec.ofChange inodeErrorsSpec)

/-- ITS FALSE NEIGHBOUR: 'it returns false'. Refute it at one input. -/
def inodeErrorsWrong : ChangeSpec := { name := "inodeErrors", fn := fun _ => fun
  | [d1, d2, d3] => { results := [.lit (.bool false)], args := [d1, d2, d3] }
  | _ => none }
def InodeErrorsWrongFalsely : Prop := inodeErrorsRow.holds Tryz.pinned (OpenSpec.ofChange inodeErrorsWrong)

/- THE SECOND FORM. 'bulk': how many values and letters a reading holds, each counted each time it is reached (what is shared counts as often as it is met; a slice's spare places count too). A statement '..UptoSaid' is the law's where the arguments, and the package variables that the reading takes, are together of bulk at most 1048576: NARROWER than '..Said'. Prove '..Said' where nothing that the law and all that it calls make is longer than what came in: it says more and counts as full. Else prove '..UptoSaid'. A law counts once. -/
mutual
def uptoBulk {H : Type} : DataW H → Nat
  | .lit (.string bytes) => bytes.length + 1
  | .lit _ => 1
  | .nil => 1
  | .ptr d => uptoBulk d + 1
  | .slice elems spare => uptoBulkAll elems + uptoBulkAll spare + 1
  | .agg parts => uptoBulkAll parts + 1
  | .iface _ d => uptoBulk d + 1
  | .map entries => uptoBulkEntries entries + 1
  | .held _ => 1
def uptoBulkAll {H : Type} : List (DataW H) → Nat
  | [] => 0
  | d :: r => uptoBulk d + uptoBulkAll r
def uptoBulkEntries {H : Type} : List (Lit × DataW H) → Nat
  | [] => 0
  | x :: r => uptoBulkEntry x + uptoBulkEntries r
def uptoBulkEntry {H : Type} : Lit × DataW H → Nat
  | (.string bytes, d) => bytes.length + uptoBulk d + 1
  | (_, d) => uptoBulk d + 1
 end
def uptoSmall : (H : Type) → List (DataW H) → Bool := fun _ ds => decide (uptoBulkAll ds ≤ 1048576)
def OpenSpec.upto (s : _root_.Go.ChangeSpec) : _root_.Go.OpenSpec := { _root_.Go.OpenSpec.ofChange s with cond := some uptoSmall }

/-- 'armoirelaw17.InodeGoes', WHERE WHAT IT READS IS OF BULK AT MOST 1048576: true; the input reads as it did. -/
def inodeGoesUptoRow : OpenClaim := { program := "ytkmckipfjahlcaagreat", sum := "308d2c89f0d5213e9e7979c6dfdd547b7e7b7ffaac72c1e5f68b6ed522db1b03", func := "armoire/armoirelaw17.InodeGoes", spec := "inodeGoes", inPlace := ["internal/bytealg.IndexByteString"], unfollowed := true, recurses := true, plainKeys := false, apart := false, narrowed := true }
def InodeGoesUptoSaid : Prop := inodeGoesUptoRow.holds Tryz.pinned (OpenSpec.upto inodeGoesSpec)

/-- 'armoirelaw17.InodeReads', WHERE WHAT IT READS IS OF BULK AT MOST 1048576: true; the input reads as it did. -/
def inodeReadsUptoRow : OpenClaim := { program := "ytkmckipfjahlcaagreat", sum := "308d2c89f0d5213e9e7979c6dfdd547b7e7b7ffaac72c1e5f68b6ed522db1b03", func := "armoire/armoirelaw17.InodeReads", spec := "inodeReads", inPlace := ["internal/bytealg.IndexByteString"], unfollowed := true, recurses := true, plainKeys := false, apart := false, narrowed := true }
def InodeReadsUptoSaid : Prop := inodeReadsUptoRow.holds Tryz.pinned (OpenSpec.upto inodeReadsSpec)

/-- 'armoirelaw17.InodeWrites', WHERE WHAT IT READS IS OF BULK AT MOST 1048576: true; the input reads as it did. -/
def inodeWritesUptoRow : OpenClaim := { program := "ytkmckipfjahlcaagreat", sum := "308d2c89f0d5213e9e7979c6dfdd547b7e7b7ffaac72c1e5f68b6ed522db1b03", func := "armoire/armoirelaw17.InodeWrites", spec := "inodeWrites", inPlace := ["internal/bytealg.IndexByteString"], unfollowed := true, recurses := true, plainKeys := false, apart := false, narrowed := true }
def InodeWritesUptoSaid : Prop := inodeWritesUptoRow.holds Tryz.pinned (OpenSpec.upto inodeWritesSpec)

/-- 'armoirelaw17.InodeGone', WHERE WHAT IT READS IS OF BULK AT MOST 1048576: true; the input reads as it did. -/
def inodeGoneUptoRow : OpenClaim := { program := "ytkmckipfjahlcaagreat", sum := "308d2c89f0d5213e9e7979c6dfdd547b7e7b7ffaac72c1e5f68b6ed522db1b03", func := "armoire/armoirelaw17.InodeGone", spec := "inodeGone", inPlace := ["internal/bytealg.IndexByteString"], unfollowed := true, recurses := true, plainKeys := false, apart := false, narrowed := true }
def InodeGoneUptoSaid : Prop := inodeGoneUptoRow.holds Tryz.pinned (OpenSpec.upto inodeGoneSpec)

/-- 'armoirelaw17.InodeErrors', WHERE WHAT IT READS IS OF BULK AT MOST 1048576: true; the input reads as it did. -/
def inodeErrorsUptoRow : OpenClaim := { program := "ytkmckipfjahlcaagreat", sum := "308d2c89f0d5213e9e7979c6dfdd547b7e7b7ffaac72c1e5f68b6ed522db1b03", func := "armoire/armoirelaw17.InodeErrors", spec := "inodeErrors", inPlace := ["internal/bytealg.IndexByteString"], unfollowed := true, recurses := true, plainKeys := false, apart := false, narrowed := true }
def InodeErrorsUptoSaid : Prop := inodeErrorsUptoRow.holds Tryz.pinned (OpenSpec.upto inodeErrorsSpec)

end Rows
end Go.Proofs.YtkmckipfjahlcaaGreat
