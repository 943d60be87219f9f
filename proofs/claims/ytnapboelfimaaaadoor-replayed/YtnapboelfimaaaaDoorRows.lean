/-
  NARROWER THAN 'FOR EVERY INPUT', by the rows' own cells (each row's printed sentence says how): Found: laid · Families: laid · Batch: laid · Enough: laid · Packed: laid · Replayed: laid.
  DERIVED. THE GIVEN ROWS OF THIS SEAT. 6 by the template 'for every input the law returns true; each argument reads behind the call as it read before'; 0 by the template 'total and deterministic' (their statements: YtnapboelfimaaaaDoorTotals.lean).
  GIVEN WITH THE SEED: the statements are not yours to turn. If you find one false, say at which input.
  Laid BY PROGRAM, IN A SANDBOX (cutbox-rows.mjs): the forced cells as the released guide's own fill.sh prints them over the translation 9e14cf88a80aaae2… (all of the seat's roots in one cut). By AI agents, Wed Nov 11 2026. No macro, syntax, notation, axiom, sorry.
-/
import Derived.Test.YtnapboelfimaaaaDoorChecked
import GoSem.Claim
import GoSem.ClaimJoined
import GoSem.ClaimMapViews
import Derived.JoinedTies
import Derived.KernelRfl
namespace Go.Proofs.YtnapboelfimaaaaDoor
/- THE CELL 'sum', in the pinned program and in every row, IS THE sha256 OF THE DUMP (.gsa) THAT YtnapboelfimaaaaDoorProg.lean LOADS. Nothing in Lean hashes anything: it is a label: what it is worth is what the hold of that sum in a sandbox is worth. -/
noncomputable def Tryd.pinned : Pinned := { name := "ytnapboelfimaaaadoor", sum := "9e14cf88a80aaae24a25fcc9ee2c743fdaec2c6a54e4d64be8a86339ff0cacfe", checked := Tryd.checked }
namespace Rows
def none {H : Type} : Left H := { results := [], args := [] }

/- WHAT THE LISTED PACKAGE-LEVEL VARIABLES READ AS WHEN THE CALL BEGINS. Each datum BY PROGRAM (the guide's laid-datum.mjs) off the statement by which the dump's own 'gosem.cut.vars' lays the variable. In a bare row this is a premise. The card (YtnapboelfimaaaaDoorCards.lean) ties it to the program's text. -/
def laid_math_bits_deBruijn32tab {H : Type} : DataW H := .agg [.lit (.int .u8 0), .lit (.int .u8 1), .lit (.int .u8 28), .lit (.int .u8 2), .lit (.int .u8 29), .lit (.int .u8 14), .lit (.int .u8 24), .lit (.int .u8 3), .lit (.int .u8 30), .lit (.int .u8 22), .lit (.int .u8 20), .lit (.int .u8 15), .lit (.int .u8 25), .lit (.int .u8 17), .lit (.int .u8 4), .lit (.int .u8 8), .lit (.int .u8 31), .lit (.int .u8 27), .lit (.int .u8 13), .lit (.int .u8 23), .lit (.int .u8 21), .lit (.int .u8 19), .lit (.int .u8 16), .lit (.int .u8 7), .lit (.int .u8 26), .lit (.int .u8 12), .lit (.int .u8 18), .lit (.int .u8 6), .lit (.int .u8 11), .lit (.int .u8 5), .lit (.int .u8 10), .lit (.int .u8 9)]
def laid_math_bits_deBruijn64tab {H : Type} : DataW H := .agg [.lit (.int .u8 0), .lit (.int .u8 1), .lit (.int .u8 56), .lit (.int .u8 2), .lit (.int .u8 57), .lit (.int .u8 49), .lit (.int .u8 28), .lit (.int .u8 3), .lit (.int .u8 61), .lit (.int .u8 58), .lit (.int .u8 42), .lit (.int .u8 50), .lit (.int .u8 38), .lit (.int .u8 29), .lit (.int .u8 17), .lit (.int .u8 4), .lit (.int .u8 62), .lit (.int .u8 47), .lit (.int .u8 59), .lit (.int .u8 36), .lit (.int .u8 45), .lit (.int .u8 43), .lit (.int .u8 51), .lit (.int .u8 22), .lit (.int .u8 53), .lit (.int .u8 39), .lit (.int .u8 33), .lit (.int .u8 30), .lit (.int .u8 24), .lit (.int .u8 18), .lit (.int .u8 12), .lit (.int .u8 5), .lit (.int .u8 63), .lit (.int .u8 55), .lit (.int .u8 48), .lit (.int .u8 27), .lit (.int .u8 60), .lit (.int .u8 41), .lit (.int .u8 37), .lit (.int .u8 16), .lit (.int .u8 46), .lit (.int .u8 35), .lit (.int .u8 44), .lit (.int .u8 21), .lit (.int .u8 52), .lit (.int .u8 32), .lit (.int .u8 23), .lit (.int .u8 11), .lit (.int .u8 54), .lit (.int .u8 26), .lit (.int .u8 40), .lit (.int .u8 15), .lit (.int .u8 34), .lit (.int .u8 20), .lit (.int .u8 31), .lit (.int .u8 10), .lit (.int .u8 25), .lit (.int .u8 14), .lit (.int .u8 19), .lit (.int .u8 9), .lit (.int .u8 13), .lit (.int .u8 8), .lit (.int .u8 7), .lit (.int .u8 6)]

/-- 'bywaykeep.Found': WHATEVER THE INPUT: true; the input reads as it did. -/
def foundSpec : ChangeSpec := { name := "found", fn := fun _ => fun
  | [d1, d2, d3, d4] => { results := [.lit (.bool true)], args := [d1, d2, d3, d4] }
  | _ => none }
def foundRow : OpenClaim := { program := "ytnapboelfimaaaadoor", sum := "9e14cf88a80aaae24a25fcc9ee2c743fdaec2c6a54e4d64be8a86339ff0cacfe", func := "byway/bywaykeep.Found", spec := "found", unfollowed := true, recurses := true, named := ["math/bits.deBruijn32tab", "math/bits.deBruijn64tab"], apart := false, laid := [("math/bits.deBruijn32tab", laid_math_bits_deBruijn32tab), ("math/bits.deBruijn64tab", laid_math_bits_deBruijn64tab)] }
def FoundSaid : Prop := foundRow.holds Tryd.pinned (OpenSpec.ofChange foundSpec)

/-- ITS FALSE NEIGHBOUR: 'it returns false'. Refute it at one input. -/
def foundWrong : ChangeSpec := { name := "found", fn := fun _ => fun
  | [d1, d2, d3, d4] => { results := [.lit (.bool false)], args := [d1, d2, d3, d4] }
  | _ => none }
def FoundWrongFalsely : Prop := foundRow.holds Tryd.pinned (OpenSpec.ofChange foundWrong)

/-- 'bywaykeep.Families': WHATEVER THE INPUT: true; the input reads as it did. -/
def familiesSpec : ChangeSpec := { name := "families", fn := fun _ => fun
  | [d1, d2, d3] => { results := [.lit (.bool true)], args := [d1, d2, d3] }
  | _ => none }
def familiesRow : OpenClaim := { program := "ytnapboelfimaaaadoor", sum := "9e14cf88a80aaae24a25fcc9ee2c743fdaec2c6a54e4d64be8a86339ff0cacfe", func := "byway/bywaykeep.Families", spec := "families", unfollowed := true, recurses := true, named := ["math/bits.deBruijn32tab", "math/bits.deBruijn64tab"], apart := false, laid := [("math/bits.deBruijn32tab", laid_math_bits_deBruijn32tab), ("math/bits.deBruijn64tab", laid_math_bits_deBruijn64tab)] }
def FamiliesSaid : Prop := familiesRow.holds Tryd.pinned (OpenSpec.ofChange familiesSpec)

/-- ITS FALSE NEIGHBOUR: 'it returns false'. Refute it at one input. -/
def familiesWrong : ChangeSpec := { name := "families", fn := fun _ => fun
  | [d1, d2, d3] => { results := [.lit (.bool false)], args := [d1, d2, d3] }
  | _ => none }
def FamiliesWrongFalsely : Prop := familiesRow.holds Tryd.pinned (OpenSpec.ofChange familiesWrong)

/-- 'bywaykeep.Batch': WHATEVER THE INPUT: true; the input reads as it did. -/
def batchSpec : ChangeSpec := { name := "batch", fn := fun _ => fun
  | [d1, d2] => { results := [.lit (.bool true)], args := [d1, d2] }
  | _ => none }
def batchRow : OpenClaim := { program := "ytnapboelfimaaaadoor", sum := "9e14cf88a80aaae24a25fcc9ee2c743fdaec2c6a54e4d64be8a86339ff0cacfe", func := "byway/bywaykeep.Batch", spec := "batch", unfollowed := true, recurses := true, named := ["math/bits.deBruijn32tab", "math/bits.deBruijn64tab"], apart := false, laid := [("math/bits.deBruijn32tab", laid_math_bits_deBruijn32tab), ("math/bits.deBruijn64tab", laid_math_bits_deBruijn64tab)] }
def BatchSaid : Prop := batchRow.holds Tryd.pinned (OpenSpec.ofChange batchSpec)

/-- ITS FALSE NEIGHBOUR: 'it returns false'. Refute it at one input. -/
def batchWrong : ChangeSpec := { name := "batch", fn := fun _ => fun
  | [d1, d2] => { results := [.lit (.bool false)], args := [d1, d2] }
  | _ => none }
def BatchWrongFalsely : Prop := batchRow.holds Tryd.pinned (OpenSpec.ofChange batchWrong)

/-- 'bywaykeep.Enough': WHATEVER THE INPUT: true; the input reads as it did. -/
def enoughSpec : ChangeSpec := { name := "enough", fn := fun _ => fun
  | [d1, d2] => { results := [.lit (.bool true)], args := [d1, d2] }
  | _ => none }
def enoughRow : OpenClaim := { program := "ytnapboelfimaaaadoor", sum := "9e14cf88a80aaae24a25fcc9ee2c743fdaec2c6a54e4d64be8a86339ff0cacfe", func := "byway/bywaykeep.Enough", spec := "enough", unfollowed := true, recurses := true, named := ["math/bits.deBruijn32tab", "math/bits.deBruijn64tab"], apart := false, laid := [("math/bits.deBruijn32tab", laid_math_bits_deBruijn32tab), ("math/bits.deBruijn64tab", laid_math_bits_deBruijn64tab)] }
def EnoughSaid : Prop := enoughRow.holds Tryd.pinned (OpenSpec.ofChange enoughSpec)

/-- ITS FALSE NEIGHBOUR: 'it returns false'. Refute it at one input. -/
def enoughWrong : ChangeSpec := { name := "enough", fn := fun _ => fun
  | [d1, d2] => { results := [.lit (.bool false)], args := [d1, d2] }
  | _ => none }
def EnoughWrongFalsely : Prop := enoughRow.holds Tryd.pinned (OpenSpec.ofChange enoughWrong)

/-- 'bywaykeep.Packed': WHATEVER THE INPUT: true; the input reads as it did. -/
def packedSpec : ChangeSpec := { name := "packed", fn := fun _ => fun
  | [d1, d2] => { results := [.lit (.bool true)], args := [d1, d2] }
  | _ => none }
def packedRow : OpenClaim := { program := "ytnapboelfimaaaadoor", sum := "9e14cf88a80aaae24a25fcc9ee2c743fdaec2c6a54e4d64be8a86339ff0cacfe", func := "byway/bywaykeep.Packed", spec := "packed", unfollowed := true, recurses := true, named := ["math/bits.deBruijn32tab", "math/bits.deBruijn64tab"], apart := false, laid := [("math/bits.deBruijn32tab", laid_math_bits_deBruijn32tab), ("math/bits.deBruijn64tab", laid_math_bits_deBruijn64tab)] }
def PackedSaid : Prop := packedRow.holds Tryd.pinned (OpenSpec.ofChange packedSpec)

/-- ITS FALSE NEIGHBOUR: 'it returns false'. Refute it at one input. -/
def packedWrong : ChangeSpec := { name := "packed", fn := fun _ => fun
  | [d1, d2] => { results := [.lit (.bool false)], args := [d1, d2] }
  | _ => none }
def PackedWrongFalsely : Prop := packedRow.holds Tryd.pinned (OpenSpec.ofChange packedWrong)

/-- 'bywaykeep.Replayed': WHATEVER THE INPUT: true; the input reads as it did. -/
def replayedSpec : ChangeSpec := { name := "replayed", fn := fun _ => fun
  | [d1, d2] => { results := [.lit (.bool true)], args := [d1, d2] }
  | _ => none }
def replayedRow : OpenClaim := { program := "ytnapboelfimaaaadoor", sum := "9e14cf88a80aaae24a25fcc9ee2c743fdaec2c6a54e4d64be8a86339ff0cacfe", func := "byway/bywaykeep.Replayed", spec := "replayed", unfollowed := true, recurses := true, named := ["math/bits.deBruijn32tab", "math/bits.deBruijn64tab"], apart := false, laid := [("math/bits.deBruijn32tab", laid_math_bits_deBruijn32tab), ("math/bits.deBruijn64tab", laid_math_bits_deBruijn64tab)] }
def ReplayedSaid : Prop := replayedRow.holds Tryd.pinned (OpenSpec.ofChange replayedSpec)

/-- ITS FALSE NEIGHBOUR: 'it returns false'. Refute it at one input. -/
def replayedWrong : ChangeSpec := { name := "replayed", fn := fun _ => fun
  | [d1, d2] => { results := [.lit (.bool false)], args := [d1, d2] }
  | _ => none }
def ReplayedWrongFalsely : Prop := replayedRow.holds Tryd.pinned (OpenSpec.ofChange replayedWrong)

/- THE SECOND FORM. 'bulk': how many values and letters a reading holds, each counted each time it is reached (what is shared counts as often as it is met; a slice's spare places count too). A statement '..UptoSaid' is the law's where the arguments, and the package variables that the reading takes, are together of bulk at most 1048576: NARROWER than '..Said'. Prove '..Said' where nothing that the law and all that it calls make is longer than what came in: it says more and counts as full. Else prove '..UptoSaid'. A law counts once. -/
mutual
def uptoBulk {H : Type} : DataW H → Nat
  | .lit (.string bytes) => bytes.length + 1
  | .lit _ => 1
  | .nil => 1
  | .ptr d => uptoBulk d + 1
  | .slice elems spare => uptoBulkAll elems + uptoBulkAll spare + 1
  | .agg parts => uptoBulkAll parts + 1
  | .iface _ d => uptoBulk d + 1
  | .map entries => uptoBulkEntries entries + 1
  | .held _ => 1
def uptoBulkAll {H : Type} : List (DataW H) → Nat
  | [] => 0
  | d :: r => uptoBulk d + uptoBulkAll r
def uptoBulkEntries {H : Type} : List (Lit × DataW H) → Nat
  | [] => 0
  | x :: r => uptoBulkEntry x + uptoBulkEntries r
def uptoBulkEntry {H : Type} : Lit × DataW H → Nat
  | (.string bytes, d) => bytes.length + uptoBulk d + 1
  | (_, d) => uptoBulk d + 1
 end
def uptoSmall : (H : Type) → List (DataW H) → Bool := fun _ ds => decide (uptoBulkAll ds ≤ 1048576)
def OpenSpec.upto (s : _root_.Go.ChangeSpec) : _root_.Go.OpenSpec := { _root_.Go.OpenSpec.ofChange s with cond := some uptoSmall }

/-- 'bywaykeep.Found', WHERE WHAT IT READS IS OF BULK AT MOST 1048576: true; the input reads as it did. -/
def foundUptoRow : OpenClaim := { program := "ytnapboelfimaaaadoor", sum := "9e14cf88a80aaae24a25fcc9ee2c743fdaec2c6a54e4d64be8a86339ff0cacfe", func := "byway/bywaykeep.Found", spec := "found", unfollowed := true, recurses := true, named := ["math/bits.deBruijn32tab", "math/bits.deBruijn64tab"], apart := false, laid := [("math/bits.deBruijn32tab", laid_math_bits_deBruijn32tab), ("math/bits.deBruijn64tab", laid_math_bits_deBruijn64tab)], narrowed := true }
def FoundUptoSaid : Prop := foundUptoRow.holds Tryd.pinned (OpenSpec.upto foundSpec)

/-- 'bywaykeep.Families', WHERE WHAT IT READS IS OF BULK AT MOST 1048576: true; the input reads as it did. -/
def familiesUptoRow : OpenClaim := { program := "ytnapboelfimaaaadoor", sum := "9e14cf88a80aaae24a25fcc9ee2c743fdaec2c6a54e4d64be8a86339ff0cacfe", func := "byway/bywaykeep.Families", spec := "families", unfollowed := true, recurses := true, named := ["math/bits.deBruijn32tab", "math/bits.deBruijn64tab"], apart := false, laid := [("math/bits.deBruijn32tab", laid_math_bits_deBruijn32tab), ("math/bits.deBruijn64tab", laid_math_bits_deBruijn64tab)], narrowed := true }
def FamiliesUptoSaid : Prop := familiesUptoRow.holds Tryd.pinned (OpenSpec.upto familiesSpec)

/-- 'bywaykeep.Batch', WHERE WHAT IT READS IS OF BULK AT MOST 1048576: true; the input reads as it did. -/
def batchUptoRow : OpenClaim := { program := "ytnapboelfimaaaadoor", sum := "9e14cf88a80aaae24a25fcc9ee2c743fdaec2c6a54e4d64be8a86339ff0cacfe", func := "byway/bywaykeep.Batch", spec := "batch", unfollowed := true, recurses := true, named := ["math/bits.deBruijn32tab", "math/bits.deBruijn64tab"], apart := false, laid := [("math/bits.deBruijn32tab", laid_math_bits_deBruijn32tab), ("math/bits.deBruijn64tab", laid_math_bits_deBruijn64tab)], narrowed := true }
def BatchUptoSaid : Prop := batchUptoRow.holds Tryd.pinned (OpenSpec.upto batchSpec)

/-- 'bywaykeep.Enough', WHERE WHAT IT READS IS OF BULK AT MOST 1048576: true; the input reads as it did. -/
def enoughUptoRow : OpenClaim := { program := "ytnapboelfimaaaadoor", sum := "9e14cf88a80aaae24a25fcc9ee2c743fdaec2c6a54e4d64be8a86339ff0cacfe", func := "byway/bywaykeep.Enough", spec := "enough", unfollowed := true, recurses := true, named := ["math/bits.deBruijn32tab", "math/bits.deBruijn64tab"], apart := false, laid := [("math/bits.deBruijn32tab", laid_math_bits_deBruijn32tab), ("math/bits.deBruijn64tab", laid_math_bits_deBruijn64tab)], narrowed := true }
def EnoughUptoSaid : Prop := enoughUptoRow.holds Tryd.pinned (OpenSpec.upto enoughSpec)

/-- 'bywaykeep.Packed', WHERE WHAT IT READS IS OF BULK AT MOST 1048576: true; the input reads as it did. -/
def packedUptoRow : OpenClaim := { program := "ytnapboelfimaaaadoor", sum := "9e14cf88a80aaae24a25fcc9ee2c743fdaec2c6a54e4d64be8a86339ff0cacfe", func := "byway/bywaykeep.Packed", spec := "packed", unfollowed := true, recurses := true, named := ["math/bits.deBruijn32tab", "math/bits.deBruijn64tab"], apart := false, laid := [("math/bits.deBruijn32tab", laid_math_bits_deBruijn32tab), ("math/bits.deBruijn64tab", laid_math_bits_deBruijn64tab)], narrowed := true }
def PackedUptoSaid : Prop := packedUptoRow.holds Tryd.pinned (OpenSpec.upto packedSpec)

/-- 'bywaykeep.Replayed', WHERE WHAT IT READS IS OF BULK AT MOST 1048576: true; the input reads as it did. -/
def replayedUptoRow : OpenClaim := { program := "ytnapboelfimaaaadoor", sum := "9e14cf88a80aaae24a25fcc9ee2c743fdaec2c6a54e4d64be8a86339ff0cacfe", func := "byway/bywaykeep.Replayed", spec := "replayed", unfollowed := true, recurses := true, named := ["math/bits.deBruijn32tab", "math/bits.deBruijn64tab"], apart := false, laid := [("math/bits.deBruijn32tab", laid_math_bits_deBruijn32tab), ("math/bits.deBruijn64tab", laid_math_bits_deBruijn64tab)], narrowed := true }
def ReplayedUptoSaid : Prop := replayedUptoRow.holds Tryd.pinned (OpenSpec.upto replayedSpec)

end Rows
end Go.Proofs.YtnapboelfimaaaaDoor
