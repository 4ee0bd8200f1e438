/-
  NARROWER THAN 'FOR EVERY INPUT', by the rows' own cells (each row's printed sentence says how): ModularInverse: laid · ModularSolves: laid · ModularFirsts: laid · ModularBits: laid · ModularHits: laid · ModularLater: laid · ModularWhole: laid · ModularPairs: laid.
  DERIVED. THE GIVEN ROWS OF THIS SEAT. 8 by the template 'for every input the law returns true; each argument reads behind the call as it read before'; 0 by the template 'total and deterministic' (their statements: YtidebjcnmabggaaDoorTotals.lean).
  GIVEN WITH THE SEED: the statements are not yours to turn. If you find one false, say at which input.
  Laid BY PROGRAM, IN A SANDBOX (cutbox-rows.mjs): the forced cells as the released guide's own fill.sh prints them over the translation fd76699308f139e5… (all of the seat's roots in one cut). By AI agents, Wed Nov 11 2026. No macro, syntax, notation, axiom, sorry.
-/
import Derived.Test.YtidebjcnmabggaaDoorChecked
import GoSem.Claim
import GoSem.ClaimJoined
import GoSem.ClaimMapViews
import Derived.JoinedTies
import Derived.KernelRfl
namespace Go.Proofs.YtidebjcnmabggaaDoor
/- THE CELL 'sum', in the pinned program and in every row, IS THE sha256 OF THE DUMP (.gsa) THAT YtidebjcnmabggaaDoorProg.lean LOADS. Nothing in Lean hashes anything: it is a label: what it is worth is what the hold of that sum in a sandbox is worth. -/
noncomputable def Tryd.pinned : Pinned := { name := "ytidebjcnmabggaadoor", sum := "fd76699308f139e5194505a14c45ecc9e8578f4e90b47dd320cceeb732e88875", checked := Tryd.checked }
namespace Rows
def none {H : Type} : Left H := { results := [], args := [] }

/- WHAT THE LISTED PACKAGE-LEVEL VARIABLES READ AS WHEN THE CALL BEGINS. Each datum BY PROGRAM (the guide's laid-datum.mjs) off the statement by which the dump's own 'gosem.cut.vars' lays the variable. In a bare row this is a premise. The card (YtidebjcnmabggaaDoorCards.lean) ties it to the program's text. -/
def laid_math_bits_deBruijn64tab {H : Type} : DataW H := .agg [.lit (.int .u8 0), .lit (.int .u8 1), .lit (.int .u8 56), .lit (.int .u8 2), .lit (.int .u8 57), .lit (.int .u8 49), .lit (.int .u8 28), .lit (.int .u8 3), .lit (.int .u8 61), .lit (.int .u8 58), .lit (.int .u8 42), .lit (.int .u8 50), .lit (.int .u8 38), .lit (.int .u8 29), .lit (.int .u8 17), .lit (.int .u8 4), .lit (.int .u8 62), .lit (.int .u8 47), .lit (.int .u8 59), .lit (.int .u8 36), .lit (.int .u8 45), .lit (.int .u8 43), .lit (.int .u8 51), .lit (.int .u8 22), .lit (.int .u8 53), .lit (.int .u8 39), .lit (.int .u8 33), .lit (.int .u8 30), .lit (.int .u8 24), .lit (.int .u8 18), .lit (.int .u8 12), .lit (.int .u8 5), .lit (.int .u8 63), .lit (.int .u8 55), .lit (.int .u8 48), .lit (.int .u8 27), .lit (.int .u8 60), .lit (.int .u8 41), .lit (.int .u8 37), .lit (.int .u8 16), .lit (.int .u8 46), .lit (.int .u8 35), .lit (.int .u8 44), .lit (.int .u8 21), .lit (.int .u8 52), .lit (.int .u8 32), .lit (.int .u8 23), .lit (.int .u8 11), .lit (.int .u8 54), .lit (.int .u8 26), .lit (.int .u8 40), .lit (.int .u8 15), .lit (.int .u8 34), .lit (.int .u8 20), .lit (.int .u8 31), .lit (.int .u8 10), .lit (.int .u8 25), .lit (.int .u8 14), .lit (.int .u8 19), .lit (.int .u8 9), .lit (.int .u8 13), .lit (.int .u8 8), .lit (.int .u8 7), .lit (.int .u8 6)]

/-- 'strakelaw13.ModularInverse': WHATEVER THE INPUT: true; the input reads as it did. -/
def modularInverseSpec : ChangeSpec := { name := "modularInverse", fn := fun _ => fun
  | [d] => { results := [.lit (.bool true)], args := [d] }
  | _ => none }
def modularInverseRow : OpenClaim := { program := "ytidebjcnmabggaadoor", sum := "fd76699308f139e5194505a14c45ecc9e8578f4e90b47dd320cceeb732e88875", func := "strake/strakelaw13.ModularInverse", spec := "modularInverse", inPlace := ["math/bits.Add64"], named := ["math/bits.deBruijn64tab", "math/bits.divideError", "math/bits.overflowError"], apart := false, laid := [("math/bits.deBruijn64tab", laid_math_bits_deBruijn64tab)] }
def ModularInverseSaid : Prop := modularInverseRow.holds Tryd.pinned (OpenSpec.ofChange modularInverseSpec)

/-- ITS FALSE NEIGHBOUR: 'it returns false'. Refute it at one input. -/
def modularInverseWrong : ChangeSpec := { name := "modularInverse", fn := fun _ => fun
  | [d] => { results := [.lit (.bool false)], args := [d] }
  | _ => none }
def ModularInverseWrongFalsely : Prop := modularInverseRow.holds Tryd.pinned (OpenSpec.ofChange modularInverseWrong)

/-- 'strakelaw13.ModularSolves': WHATEVER THE INPUT: true; the input reads as it did. -/
def modularSolvesSpec : ChangeSpec := { name := "modularSolves", fn := fun _ => fun
  | [d1, d2, d3, d4] => { results := [.lit (.bool true)], args := [d1, d2, d3, d4] }
  | _ => none }
def modularSolvesRow : OpenClaim := { program := "ytidebjcnmabggaadoor", sum := "fd76699308f139e5194505a14c45ecc9e8578f4e90b47dd320cceeb732e88875", func := "strake/strakelaw13.ModularSolves", spec := "modularSolves", inPlace := ["math/bits.Add64"], named := ["math/bits.deBruijn64tab", "math/bits.divideError", "math/bits.overflowError"], apart := false, laid := [("math/bits.deBruijn64tab", laid_math_bits_deBruijn64tab)] }
def ModularSolvesSaid : Prop := modularSolvesRow.holds Tryd.pinned (OpenSpec.ofChange modularSolvesSpec)

/-- ITS FALSE NEIGHBOUR: 'it returns false'. Refute it at one input. -/
def modularSolvesWrong : ChangeSpec := { name := "modularSolves", fn := fun _ => fun
  | [d1, d2, d3, d4] => { results := [.lit (.bool false)], args := [d1, d2, d3, d4] }
  | _ => none }
def ModularSolvesWrongFalsely : Prop := modularSolvesRow.holds Tryd.pinned (OpenSpec.ofChange modularSolvesWrong)

/-- 'strakelaw13.ModularFirsts': WHATEVER THE INPUT: true; the input reads as it did. -/
def modularFirstsSpec : ChangeSpec := { name := "modularFirsts", fn := fun _ => fun
  | [d1, d2, d3, d4, d5] => { results := [.lit (.bool true)], args := [d1, d2, d3, d4, d5] }
  | _ => none }
def modularFirstsRow : OpenClaim := { program := "ytidebjcnmabggaadoor", sum := "fd76699308f139e5194505a14c45ecc9e8578f4e90b47dd320cceeb732e88875", func := "strake/strakelaw13.ModularFirsts", spec := "modularFirsts", inPlace := ["math/bits.Add64"], named := ["math/bits.divideError", "math/bits.overflowError", "math/bits.deBruijn64tab"], apart := false, laid := [("math/bits.deBruijn64tab", laid_math_bits_deBruijn64tab)] }
def ModularFirstsSaid : Prop := modularFirstsRow.holds Tryd.pinned (OpenSpec.ofChange modularFirstsSpec)

/-- ITS FALSE NEIGHBOUR: 'it returns false'. Refute it at one input. -/
def modularFirstsWrong : ChangeSpec := { name := "modularFirsts", fn := fun _ => fun
  | [d1, d2, d3, d4, d5] => { results := [.lit (.bool false)], args := [d1, d2, d3, d4, d5] }
  | _ => none }
def ModularFirstsWrongFalsely : Prop := modularFirstsRow.holds Tryd.pinned (OpenSpec.ofChange modularFirstsWrong)

/-- 'strakelaw13.ModularBits': WHATEVER THE INPUT: true; the input reads as it did. -/
def modularBitsSpec : ChangeSpec := { name := "modularBits", fn := fun _ => fun
  | [d1, d2, d3, d4] => { results := [.lit (.bool true)], args := [d1, d2, d3, d4] }
  | _ => none }
def modularBitsRow : OpenClaim := { program := "ytidebjcnmabggaadoor", sum := "fd76699308f139e5194505a14c45ecc9e8578f4e90b47dd320cceeb732e88875", func := "strake/strakelaw13.ModularBits", spec := "modularBits", inPlace := ["math/bits.Add64"], named := ["math/bits.deBruijn64tab", "math/bits.divideError", "math/bits.overflowError"], apart := false, laid := [("math/bits.deBruijn64tab", laid_math_bits_deBruijn64tab)] }
def ModularBitsSaid : Prop := modularBitsRow.holds Tryd.pinned (OpenSpec.ofChange modularBitsSpec)

/-- ITS FALSE NEIGHBOUR: 'it returns false'. Refute it at one input. -/
def modularBitsWrong : ChangeSpec := { name := "modularBits", fn := fun _ => fun
  | [d1, d2, d3, d4] => { results := [.lit (.bool false)], args := [d1, d2, d3, d4] }
  | _ => none }
def ModularBitsWrongFalsely : Prop := modularBitsRow.holds Tryd.pinned (OpenSpec.ofChange modularBitsWrong)

/-- 'strakelaw13.ModularHits': WHATEVER THE INPUT: true; the input reads as it did. -/
def modularHitsSpec : ChangeSpec := { name := "modularHits", fn := fun _ => fun
  | [d1, d2, d3, d4, d5, d6] => { results := [.lit (.bool true)], args := [d1, d2, d3, d4, d5, d6] }
  | _ => none }
def modularHitsRow : OpenClaim := { program := "ytidebjcnmabggaadoor", sum := "fd76699308f139e5194505a14c45ecc9e8578f4e90b47dd320cceeb732e88875", func := "strake/strakelaw13.ModularHits", spec := "modularHits", inPlace := ["math/bits.Add64"], named := ["math/bits.divideError", "math/bits.overflowError", "math/bits.deBruijn64tab"], apart := false, laid := [("math/bits.deBruijn64tab", laid_math_bits_deBruijn64tab)] }
def ModularHitsSaid : Prop := modularHitsRow.holds Tryd.pinned (OpenSpec.ofChange modularHitsSpec)

/-- ITS FALSE NEIGHBOUR: 'it returns false'. Refute it at one input. -/
def modularHitsWrong : ChangeSpec := { name := "modularHits", fn := fun _ => fun
  | [d1, d2, d3, d4, d5, d6] => { results := [.lit (.bool false)], args := [d1, d2, d3, d4, d5, d6] }
  | _ => none }
def ModularHitsWrongFalsely : Prop := modularHitsRow.holds Tryd.pinned (OpenSpec.ofChange modularHitsWrong)

/-- 'strakelaw13.ModularLater': WHATEVER THE INPUT: true; the input reads as it did. -/
def modularLaterSpec : ChangeSpec := { name := "modularLater", fn := fun _ => fun
  | [d1, d2, d3, d4, d5, d6] => { results := [.lit (.bool true)], args := [d1, d2, d3, d4, d5, d6] }
  | _ => none }
def modularLaterRow : OpenClaim := { program := "ytidebjcnmabggaadoor", sum := "fd76699308f139e5194505a14c45ecc9e8578f4e90b47dd320cceeb732e88875", func := "strake/strakelaw13.ModularLater", spec := "modularLater", inPlace := ["math/bits.Add64"], named := ["math/bits.divideError", "math/bits.overflowError", "math/bits.deBruijn64tab"], apart := false, laid := [("math/bits.deBruijn64tab", laid_math_bits_deBruijn64tab)] }
def ModularLaterSaid : Prop := modularLaterRow.holds Tryd.pinned (OpenSpec.ofChange modularLaterSpec)

/-- ITS FALSE NEIGHBOUR: 'it returns false'. Refute it at one input. -/
def modularLaterWrong : ChangeSpec := { name := "modularLater", fn := fun _ => fun
  | [d1, d2, d3, d4, d5, d6] => { results := [.lit (.bool false)], args := [d1, d2, d3, d4, d5, d6] }
  | _ => none }
def ModularLaterWrongFalsely : Prop := modularLaterRow.holds Tryd.pinned (OpenSpec.ofChange modularLaterWrong)

/-- 'strakelaw13.ModularWhole': WHATEVER THE INPUT: true; the input reads as it did. -/
def modularWholeSpec : ChangeSpec := { name := "modularWhole", fn := fun _ => fun
  | [d1, d2, d3, d4, d5] => { results := [.lit (.bool true)], args := [d1, d2, d3, d4, d5] }
  | _ => none }
def modularWholeRow : OpenClaim := { program := "ytidebjcnmabggaadoor", sum := "fd76699308f139e5194505a14c45ecc9e8578f4e90b47dd320cceeb732e88875", func := "strake/strakelaw13.ModularWhole", spec := "modularWhole", inPlace := ["math/bits.Add64"], named := ["math/bits.divideError", "math/bits.overflowError", "math/bits.deBruijn64tab"], apart := false, laid := [("math/bits.deBruijn64tab", laid_math_bits_deBruijn64tab)] }
def ModularWholeSaid : Prop := modularWholeRow.holds Tryd.pinned (OpenSpec.ofChange modularWholeSpec)

/-- ITS FALSE NEIGHBOUR: 'it returns false'. Refute it at one input. -/
def modularWholeWrong : ChangeSpec := { name := "modularWhole", fn := fun _ => fun
  | [d1, d2, d3, d4, d5] => { results := [.lit (.bool false)], args := [d1, d2, d3, d4, d5] }
  | _ => none }
def ModularWholeWrongFalsely : Prop := modularWholeRow.holds Tryd.pinned (OpenSpec.ofChange modularWholeWrong)

/-- 'strakelaw13.ModularPairs': WHATEVER THE INPUT: true; the input reads as it did. -/
def modularPairsSpec : ChangeSpec := { name := "modularPairs", fn := fun _ => fun
  | [d1, d2, d3, d4] => { results := [.lit (.bool true)], args := [d1, d2, d3, d4] }
  | _ => none }
def modularPairsRow : OpenClaim := { program := "ytidebjcnmabggaadoor", sum := "fd76699308f139e5194505a14c45ecc9e8578f4e90b47dd320cceeb732e88875", func := "strake/strakelaw13.ModularPairs", spec := "modularPairs", inPlace := ["math/bits.Add64"], named := ["math/bits.deBruijn64tab", "math/bits.divideError", "math/bits.overflowError"], apart := false, laid := [("math/bits.deBruijn64tab", laid_math_bits_deBruijn64tab)] }
def ModularPairsSaid : Prop := modularPairsRow.holds Tryd.pinned (OpenSpec.ofChange modularPairsSpec)

/-- ITS FALSE NEIGHBOUR: 'it returns false'. Refute it at one input. -/
def modularPairsWrong : ChangeSpec := { name := "modularPairs", fn := fun _ => fun
  | [d1, d2, d3, d4] => { results := [.lit (.bool false)], args := [d1, d2, d3, d4] }
  | _ => none }
def ModularPairsWrongFalsely : Prop := modularPairsRow.holds Tryd.pinned (OpenSpec.ofChange modularPairsWrong)

/- THE SECOND FORM. 'bulk': how many values and letters a reading holds, each counted each time it is reached (what is shared counts as often as it is met; a slice's spare places count too). A statement '..UptoSaid' is the law's where the arguments, and the package variables that the reading takes, are together of bulk at most 1048576: NARROWER than '..Said'. Prove '..Said' where nothing that the law and all that it calls make is longer than what came in: it says more and counts as full. Else prove '..UptoSaid'. A law counts once. -/
mutual
def uptoBulk {H : Type} : DataW H → Nat
  | .lit (.string bytes) => bytes.length + 1
  | .lit _ => 1
  | .nil => 1
  | .ptr d => uptoBulk d + 1
  | .slice elems spare => uptoBulkAll elems + uptoBulkAll spare + 1
  | .agg parts => uptoBulkAll parts + 1
  | .iface _ d => uptoBulk d + 1
  | .map entries => uptoBulkEntries entries + 1
  | .held _ => 1
def uptoBulkAll {H : Type} : List (DataW H) → Nat
  | [] => 0
  | d :: r => uptoBulk d + uptoBulkAll r
def uptoBulkEntries {H : Type} : List (Lit × DataW H) → Nat
  | [] => 0
  | x :: r => uptoBulkEntry x + uptoBulkEntries r
def uptoBulkEntry {H : Type} : Lit × DataW H → Nat
  | (.string bytes, d) => bytes.length + uptoBulk d + 1
  | (_, d) => uptoBulk d + 1
 end
def uptoSmall : (H : Type) → List (DataW H) → Bool := fun _ ds => decide (uptoBulkAll ds ≤ 1048576)
def OpenSpec.upto (s : _root_.Go.ChangeSpec) : _root_.Go.OpenSpec := { _root_.Go.OpenSpec.ofChange s with cond := some uptoSmall }

/-- 'strakelaw13.ModularInverse', WHERE WHAT IT READS IS OF BULK AT MOST 1048576: true; the input reads as it did. -/
def modularInverseUptoRow : OpenClaim := { program := "ytidebjcnmabggaadoor", sum := "fd76699308f139e5194505a14c45ecc9e8578f4e90b47dd320cceeb732e88875", func := "strake/strakelaw13.ModularInverse", spec := "modularInverse", inPlace := ["math/bits.Add64"], named := ["math/bits.deBruijn64tab", "math/bits.divideError", "math/bits.overflowError"], apart := false, laid := [("math/bits.deBruijn64tab", laid_math_bits_deBruijn64tab)], narrowed := true }
def ModularInverseUptoSaid : Prop := modularInverseUptoRow.holds Tryd.pinned (OpenSpec.upto modularInverseSpec)

/-- 'strakelaw13.ModularSolves', WHERE WHAT IT READS IS OF BULK AT MOST 1048576: true; the input reads as it did. -/
def modularSolvesUptoRow : OpenClaim := { program := "ytidebjcnmabggaadoor", sum := "fd76699308f139e5194505a14c45ecc9e8578f4e90b47dd320cceeb732e88875", func := "strake/strakelaw13.ModularSolves", spec := "modularSolves", inPlace := ["math/bits.Add64"], named := ["math/bits.deBruijn64tab", "math/bits.divideError", "math/bits.overflowError"], apart := false, laid := [("math/bits.deBruijn64tab", laid_math_bits_deBruijn64tab)], narrowed := true }
def ModularSolvesUptoSaid : Prop := modularSolvesUptoRow.holds Tryd.pinned (OpenSpec.upto modularSolvesSpec)

/-- 'strakelaw13.ModularFirsts', WHERE WHAT IT READS IS OF BULK AT MOST 1048576: true; the input reads as it did. -/
def modularFirstsUptoRow : OpenClaim := { program := "ytidebjcnmabggaadoor", sum := "fd76699308f139e5194505a14c45ecc9e8578f4e90b47dd320cceeb732e88875", func := "strake/strakelaw13.ModularFirsts", spec := "modularFirsts", inPlace := ["math/bits.Add64"], named := ["math/bits.divideError", "math/bits.overflowError", "math/bits.deBruijn64tab"], apart := false, laid := [("math/bits.deBruijn64tab", laid_math_bits_deBruijn64tab)], narrowed := true }
def ModularFirstsUptoSaid : Prop := modularFirstsUptoRow.holds Tryd.pinned (OpenSpec.upto modularFirstsSpec)

/-- 'strakelaw13.ModularBits', WHERE WHAT IT READS IS OF BULK AT MOST 1048576: true; the input reads as it did. -/
def modularBitsUptoRow : OpenClaim := { program := "ytidebjcnmabggaadoor", sum := "fd76699308f139e5194505a14c45ecc9e8578f4e90b47dd320cceeb732e88875", func := "strake/strakelaw13.ModularBits", spec := "modularBits", inPlace := ["math/bits.Add64"], named := ["math/bits.deBruijn64tab", "math/bits.divideError", "math/bits.overflowError"], apart := false, laid := [("math/bits.deBruijn64tab", laid_math_bits_deBruijn64tab)], narrowed := true }
def ModularBitsUptoSaid : Prop := modularBitsUptoRow.holds Tryd.pinned (OpenSpec.upto modularBitsSpec)

/-- 'strakelaw13.ModularHits', WHERE WHAT IT READS IS OF BULK AT MOST 1048576: true; the input reads as it did. -/
def modularHitsUptoRow : OpenClaim := { program := "ytidebjcnmabggaadoor", sum := "fd76699308f139e5194505a14c45ecc9e8578f4e90b47dd320cceeb732e88875", func := "strake/strakelaw13.ModularHits", spec := "modularHits", inPlace := ["math/bits.Add64"], named := ["math/bits.divideError", "math/bits.overflowError", "math/bits.deBruijn64tab"], apart := false, laid := [("math/bits.deBruijn64tab", laid_math_bits_deBruijn64tab)], narrowed := true }
def ModularHitsUptoSaid : Prop := modularHitsUptoRow.holds Tryd.pinned (OpenSpec.upto modularHitsSpec)

/-- 'strakelaw13.ModularLater', WHERE WHAT IT READS IS OF BULK AT MOST 1048576: true; the input reads as it did. -/
def modularLaterUptoRow : OpenClaim := { program := "ytidebjcnmabggaadoor", sum := "fd76699308f139e5194505a14c45ecc9e8578f4e90b47dd320cceeb732e88875", func := "strake/strakelaw13.ModularLater", spec := "modularLater", inPlace := ["math/bits.Add64"], named := ["math/bits.divideError", "math/bits.overflowError", "math/bits.deBruijn64tab"], apart := false, laid := [("math/bits.deBruijn64tab", laid_math_bits_deBruijn64tab)], narrowed := true }
def ModularLaterUptoSaid : Prop := modularLaterUptoRow.holds Tryd.pinned (OpenSpec.upto modularLaterSpec)

/-- 'strakelaw13.ModularWhole', WHERE WHAT IT READS IS OF BULK AT MOST 1048576: true; the input reads as it did. -/
def modularWholeUptoRow : OpenClaim := { program := "ytidebjcnmabggaadoor", sum := "fd76699308f139e5194505a14c45ecc9e8578f4e90b47dd320cceeb732e88875", func := "strake/strakelaw13.ModularWhole", spec := "modularWhole", inPlace := ["math/bits.Add64"], named := ["math/bits.divideError", "math/bits.overflowError", "math/bits.deBruijn64tab"], apart := false, laid := [("math/bits.deBruijn64tab", laid_math_bits_deBruijn64tab)], narrowed := true }
def ModularWholeUptoSaid : Prop := modularWholeUptoRow.holds Tryd.pinned (OpenSpec.upto modularWholeSpec)

/-- 'strakelaw13.ModularPairs', WHERE WHAT IT READS IS OF BULK AT MOST 1048576: true; the input reads as it did. -/
def modularPairsUptoRow : OpenClaim := { program := "ytidebjcnmabggaadoor", sum := "fd76699308f139e5194505a14c45ecc9e8578f4e90b47dd320cceeb732e88875", func := "strake/strakelaw13.ModularPairs", spec := "modularPairs", inPlace := ["math/bits.Add64"], named := ["math/bits.deBruijn64tab", "math/bits.divideError", "math/bits.overflowError"], apart := false, laid := [("math/bits.deBruijn64tab", laid_math_bits_deBruijn64tab)], narrowed := true }
def ModularPairsUptoSaid : Prop := modularPairsUptoRow.holds Tryd.pinned (OpenSpec.upto modularPairsSpec)

end Rows
end Go.Proofs.YtidebjcnmabggaaDoor
