/-
  No cell of these rows narrows 'for every input' (looked for: loops, veiled, ifaces, maps, wideKeys, modest, calm, conditions, laid).
  DERIVED. THE GIVEN ROWS OF THIS SEAT. 6 by the template 'for every input the law returns true; each argument reads behind the call as it read before'; 0 by the template 'total and deterministic' (their statements: YtmbiapobibfbaaaTotals.lean).
  GIVEN WITH THE SEED: the statements are not yours to turn. If you find one false, say at which input.
  Laid BY PROGRAM, IN A SANDBOX (cutbox-rows.mjs): the forced cells as the released guide's own fill.sh prints them over the translation e3c95bba1e10873b… (all of the seat's roots in one cut). By AI agents, Wed Nov 11 2026. No macro, syntax, notation, axiom, sorry.
-/
import Derived.Test.YtmbiapobibfbaaaChecked
import GoSem.Claim
import GoSem.ClaimJoined
import GoSem.ClaimMapViews
import Derived.JoinedTies
import Derived.KernelRfl
namespace Go.Proofs.Ytmbiapobibfbaaa
/- THE CELL 'sum', in the pinned program and in every row, IS THE sha256 OF THE DUMP (.gsa) THAT YtmbiapobibfbaaaProg.lean LOADS. Nothing in Lean hashes anything: it is a label: what it is worth is what the hold of that sum in a sandbox is worth. -/
noncomputable def Try.pinned : Pinned := { name := "ytmbiapobibfbaaa", sum := "e3c95bba1e10873b682028a47dfb03d3aac6e3863e14f74be0d62cd824de66e6", checked := Try.checked }
namespace Rows
def none {H : Type} : Left H := { results := [], args := [] }

/-- 'armoirelaw03.PlaceKeys': WHATEVER THE INPUT: true; the input reads as it did. -/
def placeKeysSpec : ChangeSpec := { name := "placeKeys", fn := fun _ => fun
  | [d1, d2, d3] => { results := [.lit (.bool true)], args := [d1, d2, d3] }
  | _ => none }
def placeKeysRow : OpenClaim := { program := "ytmbiapobibfbaaa", sum := "e3c95bba1e10873b682028a47dfb03d3aac6e3863e14f74be0d62cd824de66e6", func := "armoire/armoirelaw03.PlaceKeys", spec := "placeKeys", inPlace := ["internal/bytealg.IndexByteString", "internal/bytealg.IndexByte", "internal/bytealg.Index"], named := ["internal/bytealg.MaxLen"], apart := false }
def PlaceKeysSaid : Prop := placeKeysRow.holds Try.pinned (OpenSpec.ofChange placeKeysSpec)

/-- ITS FALSE NEIGHBOUR: 'it returns false'. Refute it at one input. -/
def placeKeysWrong : ChangeSpec := { name := "placeKeys", fn := fun _ => fun
  | [d1, d2, d3] => { results := [.lit (.bool false)], args := [d1, d2, d3] }
  | _ => none }
def PlaceKeysWrongFalsely : Prop := placeKeysRow.holds Try.pinned (OpenSpec.ofChange placeKeysWrong)

/-- 'armoirelaw03.PlaceOrders': WHATEVER THE INPUT: true; the input reads as it did. -/
def placeOrdersSpec : ChangeSpec := { name := "placeOrders", fn := fun _ => fun
  | [d1, d2, d3, d4] => { results := [.lit (.bool true)], args := [d1, d2, d3, d4] }
  | _ => none }
def placeOrdersRow : OpenClaim := { program := "ytmbiapobibfbaaa", sum := "e3c95bba1e10873b682028a47dfb03d3aac6e3863e14f74be0d62cd824de66e6", func := "armoire/armoirelaw03.PlaceOrders", spec := "placeOrders", inPlace := ["internal/bytealg.IndexByteString", "internal/bytealg.IndexByte", "internal/bytealg.Index"], named := ["internal/bytealg.MaxLen"], apart := false }
def PlaceOrdersSaid : Prop := placeOrdersRow.holds Try.pinned (OpenSpec.ofChange placeOrdersSpec)

/-- ITS FALSE NEIGHBOUR: 'it returns false'. Refute it at one input. -/
def placeOrdersWrong : ChangeSpec := { name := "placeOrders", fn := fun _ => fun
  | [d1, d2, d3, d4] => { results := [.lit (.bool false)], args := [d1, d2, d3, d4] }
  | _ => none }
def PlaceOrdersWrongFalsely : Prop := placeOrdersRow.holds Try.pinned (OpenSpec.ofChange placeOrdersWrong)

/-- 'armoirelaw03.PlaceBack': WHATEVER THE INPUT: true; the input reads as it did. -/
def placeBackSpec : ChangeSpec := { name := "placeBack", fn := fun _ => fun
  | [d1, d2] => { results := [.lit (.bool true)], args := [d1, d2] }
  | _ => none }
def placeBackRow : OpenClaim := { program := "ytmbiapobibfbaaa", sum := "e3c95bba1e10873b682028a47dfb03d3aac6e3863e14f74be0d62cd824de66e6", func := "armoire/armoirelaw03.PlaceBack", spec := "placeBack", inPlace := ["internal/bytealg.IndexByteString", "internal/bytealg.IndexByte", "internal/bytealg.Index"], named := ["internal/bytealg.MaxLen"], apart := false }
def PlaceBackSaid : Prop := placeBackRow.holds Try.pinned (OpenSpec.ofChange placeBackSpec)

/-- ITS FALSE NEIGHBOUR: 'it returns false'. Refute it at one input. -/
def placeBackWrong : ChangeSpec := { name := "placeBack", fn := fun _ => fun
  | [d1, d2] => { results := [.lit (.bool false)], args := [d1, d2] }
  | _ => none }
def PlaceBackWrongFalsely : Prop := placeBackRow.holds Try.pinned (OpenSpec.ofChange placeBackWrong)

/-- 'armoirelaw03.PlaceSpans': WHATEVER THE INPUT: true; the input reads as it did. -/
def placeSpansSpec : ChangeSpec := { name := "placeSpans", fn := fun _ => fun
  | [d1, d2, d3] => { results := [.lit (.bool true)], args := [d1, d2, d3] }
  | _ => none }
def placeSpansRow : OpenClaim := { program := "ytmbiapobibfbaaa", sum := "e3c95bba1e10873b682028a47dfb03d3aac6e3863e14f74be0d62cd824de66e6", func := "armoire/armoirelaw03.PlaceSpans", spec := "placeSpans", inPlace := ["internal/bytealg.IndexByteString", "internal/bytealg.IndexByte", "internal/bytealg.Index"], named := ["internal/bytealg.MaxLen"], apart := false }
def PlaceSpansSaid : Prop := placeSpansRow.holds Try.pinned (OpenSpec.ofChange placeSpansSpec)

/-- ITS FALSE NEIGHBOUR: 'it returns false'. Refute it at one input. -/
def placeSpansWrong : ChangeSpec := { name := "placeSpans", fn := fun _ => fun
  | [d1, d2, d3] => { results := [.lit (.bool false)], args := [d1, d2, d3] }
  | _ => none }
def PlaceSpansWrongFalsely : Prop := placeSpansRow.holds Try.pinned (OpenSpec.ofChange placeSpansWrong)

/-- 'armoirelaw03.PlaceThree': WHATEVER THE INPUT: true; the input reads as it did. -/
def placeThreeSpec : ChangeSpec := { name := "placeThree", fn := fun _ => fun
  | [d1, d2, d3] => { results := [.lit (.bool true)], args := [d1, d2, d3] }
  | _ => none }
def placeThreeRow : OpenClaim := { program := "ytmbiapobibfbaaa", sum := "e3c95bba1e10873b682028a47dfb03d3aac6e3863e14f74be0d62cd824de66e6", func := "armoire/armoirelaw03.PlaceThree", spec := "placeThree", inPlace := ["internal/bytealg.IndexByteString", "internal/bytealg.IndexByte", "internal/bytealg.Index"], named := ["internal/bytealg.MaxLen"], apart := false }
def PlaceThreeSaid : Prop := placeThreeRow.holds Try.pinned (OpenSpec.ofChange placeThreeSpec)

/-- ITS FALSE NEIGHBOUR: 'it returns false'. Refute it at one input. -/
def placeThreeWrong : ChangeSpec := { name := "placeThree", fn := fun _ => fun
  | [d1, d2, d3] => { results := [.lit (.bool false)], args := [d1, d2, d3] }
  | _ => none }
def PlaceThreeWrongFalsely : Prop := placeThreeRow.holds Try.pinned (OpenSpec.ofChange placeThreeWrong)

/-- 'armoirelaw03.PlaceRead': WHATEVER THE INPUT: true; the input reads as it did. -/
def placeReadSpec : ChangeSpec := { name := "placeRead", fn := fun _ => fun
  | [d] => { results := [.lit (.bool true)], args := [d] }
  | _ => none }
def placeReadRow : OpenClaim := { program := "ytmbiapobibfbaaa", sum := "e3c95bba1e10873b682028a47dfb03d3aac6e3863e14f74be0d62cd824de66e6", func := "armoire/armoirelaw03.PlaceRead", spec := "placeRead", inPlace := ["internal/bytealg.IndexByteString", "internal/bytealg.IndexByte", "internal/bytealg.Index"], named := ["internal/bytealg.MaxLen"], apart := false }
def PlaceReadSaid : Prop := placeReadRow.holds Try.pinned (OpenSpec.ofChange placeReadSpec)

/-- ITS FALSE NEIGHBOUR: 'it returns false'. Refute it at one input. -/
def placeReadWrong : ChangeSpec := { name := "placeRead", fn := fun _ => fun
  | [d] => { results := [.lit (.bool false)], args := [d] }
  | _ => none }
def PlaceReadWrongFalsely : Prop := placeReadRow.holds Try.pinned (OpenSpec.ofChange placeReadWrong)

/- THE SECOND FORM. 'bulk': how many values and letters a reading holds, each counted each time it is reached (what is shared counts as often as it is met; a slice's spare places count too). A statement '..UptoSaid' is the law's where the arguments, and the package variables that the reading takes, are together of bulk at most 1048576: NARROWER than '..Said'. Prove '..Said' where nothing that the law and all that it calls make is longer than what came in: it says more and counts as full. Else prove '..UptoSaid'. A law counts once. -/
mutual
def uptoBulk {H : Type} : DataW H → Nat
  | .lit (.string bytes) => bytes.length + 1
  | .lit _ => 1
  | .nil => 1
  | .ptr d => uptoBulk d + 1
  | .slice elems spare => uptoBulkAll elems + uptoBulkAll spare + 1
  | .agg parts => uptoBulkAll parts + 1
  | .iface _ d => uptoBulk d + 1
  | .map entries => uptoBulkEntries entries + 1
  | .held _ => 1
def uptoBulkAll {H : Type} : List (DataW H) → Nat
  | [] => 0
  | d :: r => uptoBulk d + uptoBulkAll r
def uptoBulkEntries {H : Type} : List (Lit × DataW H) → Nat
  | [] => 0
  | x :: r => uptoBulkEntry x + uptoBulkEntries r
def uptoBulkEntry {H : Type} : Lit × DataW H → Nat
  | (.string bytes, d) => bytes.length + uptoBulk d + 1
  | (_, d) => uptoBulk d + 1
 end
def uptoSmall : (H : Type) → List (DataW H) → Bool := fun _ ds => decide (uptoBulkAll ds ≤ 1048576)
def OpenSpec.upto (s : _root_.Go.ChangeSpec) : _root_.Go.OpenSpec := { _root_.Go.OpenSpec.ofChange s with cond := some uptoSmall }

/-- 'armoirelaw03.PlaceKeys', WHERE WHAT IT READS IS OF BULK AT MOST 1048576: true; the input reads as it did. -/
def placeKeysUptoRow : OpenClaim := { program := "ytmbiapobibfbaaa", sum := "e3c95bba1e10873b682028a47dfb03d3aac6e3863e14f74be0d62cd824de66e6", func := "armoire/armoirelaw03.PlaceKeys", spec := "placeKeys", inPlace := ["internal/bytealg.IndexByteString", "internal/bytealg.IndexByte", "internal/bytealg.Index"], named := ["internal/bytealg.MaxLen"], apart := false, narrowed := true }
def PlaceKeysUptoSaid : Prop := placeKeysUptoRow.holds Try.pinned (OpenSpec.upto placeKeysSpec)

/-- 'armoirelaw03.PlaceOrders', WHERE WHAT IT READS IS OF BULK AT MOST 1048576: true; the input reads as it did. -/
def placeOrdersUptoRow : OpenClaim := { program := "ytmbiapobibfbaaa", sum := "e3c95bba1e10873b682028a47dfb03d3aac6e3863e14f74be0d62cd824de66e6", func := "armoire/armoirelaw03.PlaceOrders", spec := "placeOrders", inPlace := ["internal/bytealg.IndexByteString", "internal/bytealg.IndexByte", "internal/bytealg.Index"], named := ["internal/bytealg.MaxLen"], apart := false, narrowed := true }
def PlaceOrdersUptoSaid : Prop := placeOrdersUptoRow.holds Try.pinned (OpenSpec.upto placeOrdersSpec)

/-- 'armoirelaw03.PlaceBack', WHERE WHAT IT READS IS OF BULK AT MOST 1048576: true; the input reads as it did. -/
def placeBackUptoRow : OpenClaim := { program := "ytmbiapobibfbaaa", sum := "e3c95bba1e10873b682028a47dfb03d3aac6e3863e14f74be0d62cd824de66e6", func := "armoire/armoirelaw03.PlaceBack", spec := "placeBack", inPlace := ["internal/bytealg.IndexByteString", "internal/bytealg.IndexByte", "internal/bytealg.Index"], named := ["internal/bytealg.MaxLen"], apart := false, narrowed := true }
def PlaceBackUptoSaid : Prop := placeBackUptoRow.holds Try.pinned (OpenSpec.upto placeBackSpec)

/-- 'armoirelaw03.PlaceSpans', WHERE WHAT IT READS IS OF BULK AT MOST 1048576: true; the input reads as it did. -/
def placeSpansUptoRow : OpenClaim := { program := "ytmbiapobibfbaaa", sum := "e3c95bba1e10873b682028a47dfb03d3aac6e3863e14f74be0d62cd824de66e6", func := "armoire/armoirelaw03.PlaceSpans", spec := "placeSpans", inPlace := ["internal/bytealg.IndexByteString", "internal/bytealg.IndexByte", "internal/bytealg.Index"], named := ["internal/bytealg.MaxLen"], apart := false, narrowed := true }
def PlaceSpansUptoSaid : Prop := placeSpansUptoRow.holds Try.pinned (OpenSpec.upto placeSpansSpec)

/-- 'armoirelaw03.PlaceThree', WHERE WHAT IT READS IS OF BULK AT MOST 1048576: true; the input reads as it did. -/
def placeThreeUptoRow : OpenClaim := { program := "ytmbiapobibfbaaa", sum := "e3c95bba1e10873b682028a47dfb03d3aac6e3863e14f74be0d62cd824de66e6", func := "armoire/armoirelaw03.PlaceThree", spec := "placeThree", inPlace := ["internal/bytealg.IndexByteString", "internal/bytealg.IndexByte", "internal/bytealg.Index"], named := ["internal/bytealg.MaxLen"], apart := false, narrowed := true }
def PlaceThreeUptoSaid : Prop := placeThreeUptoRow.holds Try.pinned (OpenSpec.upto placeThreeSpec)

/-- 'armoirelaw03.PlaceRead', WHERE WHAT IT READS IS OF BULK AT MOST 1048576: true; the input reads as it did. -/
def placeReadUptoRow : OpenClaim := { program := "ytmbiapobibfbaaa", sum := "e3c95bba1e10873b682028a47dfb03d3aac6e3863e14f74be0d62cd824de66e6", func := "armoire/armoirelaw03.PlaceRead", spec := "placeRead", inPlace := ["internal/bytealg.IndexByteString", "internal/bytealg.IndexByte", "internal/bytealg.Index"], named := ["internal/bytealg.MaxLen"], apart := false, narrowed := true }
def PlaceReadUptoSaid : Prop := placeReadUptoRow.holds Try.pinned (OpenSpec.upto placeReadSpec)

end Rows
end Go.Proofs.Ytmbiapobibfbaaa
