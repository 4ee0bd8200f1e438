/-
  NARROWER THAN 'FOR EVERY INPUT', by the rows' own cells (each row's printed sentence says how): ChainAdds: laid · ChainMuls: laid · ChainSums: laid · ChainFits: laid · ChainLaws: laid · ChainBack: laid · ChainSwaps: laid · ChainEnds: laid.
  DERIVED. THE GIVEN ROWS OF THIS SEAT. 8 by the template 'for every input the law returns true; each argument reads behind the call as it read before'; 0 by the template 'total and deterministic' (their statements: YtfifbgpiekpepaaDoorTotals.lean).
  GIVEN WITH THE SEED: the statements are not yours to turn. If you find one false, say at which input.
  Laid BY PROGRAM, IN A SANDBOX (cutbox-rows.mjs): the forced cells as the released guide's own fill.sh prints them over the translation 85ea81d4f4ed7f1b… (all of the seat's roots in one cut). By AI agents, Wed Nov 11 2026. No macro, syntax, notation, axiom, sorry.
-/
import Derived.Test.YtfifbgpiekpepaaDoorChecked
import GoSem.Claim
import GoSem.ClaimJoined
import GoSem.ClaimMapViews
import Derived.JoinedTies
import Derived.KernelRfl
namespace Go.Proofs.YtfifbgpiekpepaaDoor
/- THE CELL 'sum', in the pinned program and in every row, IS THE sha256 OF THE DUMP (.gsa) THAT YtfifbgpiekpepaaDoorProg.lean LOADS. Nothing in Lean hashes anything: it is a label: what it is worth is what the hold of that sum in a sandbox is worth. -/
noncomputable def Tryd.pinned : Pinned := { name := "ytfifbgpiekpepaadoor", sum := "85ea81d4f4ed7f1b06bdb1e33a6dab3d45e607c06b95cd2931b8d80574f57eaf", checked := Tryd.checked }
namespace Rows
def none {H : Type} : Left H := { results := [], args := [] }

/- WHAT THE LISTED PACKAGE-LEVEL VARIABLES READ AS WHEN THE CALL BEGINS. Each datum BY PROGRAM (the guide's laid-datum.mjs) off the statement by which the dump's own 'gosem.cut.vars' lays the variable. In a bare row this is a premise. The card (YtfifbgpiekpepaaDoorCards.lean) ties it to the program's text. -/
def laid_math_bits_deBruijn64tab {H : Type} : DataW H := .agg [.lit (.int .u8 0), .lit (.int .u8 1), .lit (.int .u8 56), .lit (.int .u8 2), .lit (.int .u8 57), .lit (.int .u8 49), .lit (.int .u8 28), .lit (.int .u8 3), .lit (.int .u8 61), .lit (.int .u8 58), .lit (.int .u8 42), .lit (.int .u8 50), .lit (.int .u8 38), .lit (.int .u8 29), .lit (.int .u8 17), .lit (.int .u8 4), .lit (.int .u8 62), .lit (.int .u8 47), .lit (.int .u8 59), .lit (.int .u8 36), .lit (.int .u8 45), .lit (.int .u8 43), .lit (.int .u8 51), .lit (.int .u8 22), .lit (.int .u8 53), .lit (.int .u8 39), .lit (.int .u8 33), .lit (.int .u8 30), .lit (.int .u8 24), .lit (.int .u8 18), .lit (.int .u8 12), .lit (.int .u8 5), .lit (.int .u8 63), .lit (.int .u8 55), .lit (.int .u8 48), .lit (.int .u8 27), .lit (.int .u8 60), .lit (.int .u8 41), .lit (.int .u8 37), .lit (.int .u8 16), .lit (.int .u8 46), .lit (.int .u8 35), .lit (.int .u8 44), .lit (.int .u8 21), .lit (.int .u8 52), .lit (.int .u8 32), .lit (.int .u8 23), .lit (.int .u8 11), .lit (.int .u8 54), .lit (.int .u8 26), .lit (.int .u8 40), .lit (.int .u8 15), .lit (.int .u8 34), .lit (.int .u8 20), .lit (.int .u8 31), .lit (.int .u8 10), .lit (.int .u8 25), .lit (.int .u8 14), .lit (.int .u8 19), .lit (.int .u8 9), .lit (.int .u8 13), .lit (.int .u8 8), .lit (.int .u8 7), .lit (.int .u8 6)]

/-- 'strakelaw12.ChainAdds': WHATEVER THE INPUT: true; the input reads as it did. -/
def chainAddsSpec : ChangeSpec := { name := "chainAdds", fn := fun _ => fun
  | [d] => { results := [.lit (.bool true)], args := [d] }
  | _ => none }
def chainAddsRow : OpenClaim := { program := "ytfifbgpiekpepaadoor", sum := "85ea81d4f4ed7f1b06bdb1e33a6dab3d45e607c06b95cd2931b8d80574f57eaf", func := "strake/strakelaw12.ChainAdds", spec := "chainAdds", named := ["math/bits.deBruijn64tab"], apart := false, laid := [("math/bits.deBruijn64tab", laid_math_bits_deBruijn64tab)] }
def ChainAddsSaid : Prop := chainAddsRow.holds Tryd.pinned (OpenSpec.ofChange chainAddsSpec)

/-- ITS FALSE NEIGHBOUR: 'it returns false'. Refute it at one input. -/
def chainAddsWrong : ChangeSpec := { name := "chainAdds", fn := fun _ => fun
  | [d] => { results := [.lit (.bool false)], args := [d] }
  | _ => none }
def ChainAddsWrongFalsely : Prop := chainAddsRow.holds Tryd.pinned (OpenSpec.ofChange chainAddsWrong)

/-- 'strakelaw12.ChainMuls': WHATEVER THE INPUT: true; the input reads as it did. -/
def chainMulsSpec : ChangeSpec := { name := "chainMuls", fn := fun _ => fun
  | [d1, d2] => { results := [.lit (.bool true)], args := [d1, d2] }
  | _ => none }
def chainMulsRow : OpenClaim := { program := "ytfifbgpiekpepaadoor", sum := "85ea81d4f4ed7f1b06bdb1e33a6dab3d45e607c06b95cd2931b8d80574f57eaf", func := "strake/strakelaw12.ChainMuls", spec := "chainMuls", recurses := true, named := ["math/bits.deBruijn64tab"], apart := false, laid := [("math/bits.deBruijn64tab", laid_math_bits_deBruijn64tab)] }
def ChainMulsSaid : Prop := chainMulsRow.holds Tryd.pinned (OpenSpec.ofChange chainMulsSpec)

/-- ITS FALSE NEIGHBOUR: 'it returns false'. Refute it at one input. -/
def chainMulsWrong : ChangeSpec := { name := "chainMuls", fn := fun _ => fun
  | [d1, d2] => { results := [.lit (.bool false)], args := [d1, d2] }
  | _ => none }
def ChainMulsWrongFalsely : Prop := chainMulsRow.holds Tryd.pinned (OpenSpec.ofChange chainMulsWrong)

/-- 'strakelaw12.ChainSums': WHATEVER THE INPUT: true; the input reads as it did. -/
def chainSumsSpec : ChangeSpec := { name := "chainSums", fn := fun _ => fun
  | [d1, d2] => { results := [.lit (.bool true)], args := [d1, d2] }
  | _ => none }
def chainSumsRow : OpenClaim := { program := "ytfifbgpiekpepaadoor", sum := "85ea81d4f4ed7f1b06bdb1e33a6dab3d45e607c06b95cd2931b8d80574f57eaf", func := "strake/strakelaw12.ChainSums", spec := "chainSums", recurses := true, named := ["math/bits.deBruijn64tab"], apart := false, laid := [("math/bits.deBruijn64tab", laid_math_bits_deBruijn64tab)] }
def ChainSumsSaid : Prop := chainSumsRow.holds Tryd.pinned (OpenSpec.ofChange chainSumsSpec)

/-- ITS FALSE NEIGHBOUR: 'it returns false'. Refute it at one input. -/
def chainSumsWrong : ChangeSpec := { name := "chainSums", fn := fun _ => fun
  | [d1, d2] => { results := [.lit (.bool false)], args := [d1, d2] }
  | _ => none }
def ChainSumsWrongFalsely : Prop := chainSumsRow.holds Tryd.pinned (OpenSpec.ofChange chainSumsWrong)

/-- 'strakelaw12.ChainFits': WHATEVER THE INPUT: true; the input reads as it did. -/
def chainFitsSpec : ChangeSpec := { name := "chainFits", fn := fun _ => fun
  | [d] => { results := [.lit (.bool true)], args := [d] }
  | _ => none }
def chainFitsRow : OpenClaim := { program := "ytfifbgpiekpepaadoor", sum := "85ea81d4f4ed7f1b06bdb1e33a6dab3d45e607c06b95cd2931b8d80574f57eaf", func := "strake/strakelaw12.ChainFits", spec := "chainFits", named := ["math/bits.deBruijn64tab"], apart := false, laid := [("math/bits.deBruijn64tab", laid_math_bits_deBruijn64tab)] }
def ChainFitsSaid : Prop := chainFitsRow.holds Tryd.pinned (OpenSpec.ofChange chainFitsSpec)

/-- ITS FALSE NEIGHBOUR: 'it returns false'. Refute it at one input. -/
def chainFitsWrong : ChangeSpec := { name := "chainFits", fn := fun _ => fun
  | [d] => { results := [.lit (.bool false)], args := [d] }
  | _ => none }
def ChainFitsWrongFalsely : Prop := chainFitsRow.holds Tryd.pinned (OpenSpec.ofChange chainFitsWrong)

/-- 'strakelaw12.ChainLaws': WHATEVER THE INPUT: true; the input reads as it did. -/
def chainLawsSpec : ChangeSpec := { name := "chainLaws", fn := fun _ => fun
  | [d1, d2, d3, d4] => { results := [.lit (.bool true)], args := [d1, d2, d3, d4] }
  | _ => none }
def chainLawsRow : OpenClaim := { program := "ytfifbgpiekpepaadoor", sum := "85ea81d4f4ed7f1b06bdb1e33a6dab3d45e607c06b95cd2931b8d80574f57eaf", func := "strake/strakelaw12.ChainLaws", spec := "chainLaws", named := ["math/bits.deBruijn64tab"], apart := false, laid := [("math/bits.deBruijn64tab", laid_math_bits_deBruijn64tab)] }
def ChainLawsSaid : Prop := chainLawsRow.holds Tryd.pinned (OpenSpec.ofChange chainLawsSpec)

/-- ITS FALSE NEIGHBOUR: 'it returns false'. Refute it at one input. -/
def chainLawsWrong : ChangeSpec := { name := "chainLaws", fn := fun _ => fun
  | [d1, d2, d3, d4] => { results := [.lit (.bool false)], args := [d1, d2, d3, d4] }
  | _ => none }
def ChainLawsWrongFalsely : Prop := chainLawsRow.holds Tryd.pinned (OpenSpec.ofChange chainLawsWrong)

/-- 'strakelaw12.ChainBack': WHATEVER THE INPUT: true; the input reads as it did. -/
def chainBackSpec : ChangeSpec := { name := "chainBack", fn := fun _ => fun
  | [d] => { results := [.lit (.bool true)], args := [d] }
  | _ => none }
def chainBackRow : OpenClaim := { program := "ytfifbgpiekpepaadoor", sum := "85ea81d4f4ed7f1b06bdb1e33a6dab3d45e607c06b95cd2931b8d80574f57eaf", func := "strake/strakelaw12.ChainBack", spec := "chainBack", named := ["math/bits.deBruijn64tab"], apart := false, laid := [("math/bits.deBruijn64tab", laid_math_bits_deBruijn64tab)] }
def ChainBackSaid : Prop := chainBackRow.holds Tryd.pinned (OpenSpec.ofChange chainBackSpec)

/-- ITS FALSE NEIGHBOUR: 'it returns false'. Refute it at one input. -/
def chainBackWrong : ChangeSpec := { name := "chainBack", fn := fun _ => fun
  | [d] => { results := [.lit (.bool false)], args := [d] }
  | _ => none }
def ChainBackWrongFalsely : Prop := chainBackRow.holds Tryd.pinned (OpenSpec.ofChange chainBackWrong)

/-- 'strakelaw12.ChainSwaps': WHATEVER THE INPUT: true; the input reads as it did. -/
def chainSwapsSpec : ChangeSpec := { name := "chainSwaps", fn := fun _ => fun
  | [d1, d2, d3] => { results := [.lit (.bool true)], args := [d1, d2, d3] }
  | _ => none }
def chainSwapsRow : OpenClaim := { program := "ytfifbgpiekpepaadoor", sum := "85ea81d4f4ed7f1b06bdb1e33a6dab3d45e607c06b95cd2931b8d80574f57eaf", func := "strake/strakelaw12.ChainSwaps", spec := "chainSwaps", named := ["math/bits.deBruijn64tab"], apart := false, laid := [("math/bits.deBruijn64tab", laid_math_bits_deBruijn64tab)] }
def ChainSwapsSaid : Prop := chainSwapsRow.holds Tryd.pinned (OpenSpec.ofChange chainSwapsSpec)

/-- ITS FALSE NEIGHBOUR: 'it returns false'. Refute it at one input. -/
def chainSwapsWrong : ChangeSpec := { name := "chainSwaps", fn := fun _ => fun
  | [d1, d2, d3] => { results := [.lit (.bool false)], args := [d1, d2, d3] }
  | _ => none }
def ChainSwapsWrongFalsely : Prop := chainSwapsRow.holds Tryd.pinned (OpenSpec.ofChange chainSwapsWrong)

/-- 'strakelaw12.ChainEnds': WHATEVER THE INPUT: true; the input reads as it did. -/
def chainEndsSpec : ChangeSpec := { name := "chainEnds", fn := fun _ => fun
  | [d1, d2] => { results := [.lit (.bool true)], args := [d1, d2] }
  | _ => none }
def chainEndsRow : OpenClaim := { program := "ytfifbgpiekpepaadoor", sum := "85ea81d4f4ed7f1b06bdb1e33a6dab3d45e607c06b95cd2931b8d80574f57eaf", func := "strake/strakelaw12.ChainEnds", spec := "chainEnds", named := ["math/bits.deBruijn64tab"], apart := false, laid := [("math/bits.deBruijn64tab", laid_math_bits_deBruijn64tab)] }
def ChainEndsSaid : Prop := chainEndsRow.holds Tryd.pinned (OpenSpec.ofChange chainEndsSpec)

/-- ITS FALSE NEIGHBOUR: 'it returns false'. Refute it at one input. -/
def chainEndsWrong : ChangeSpec := { name := "chainEnds", fn := fun _ => fun
  | [d1, d2] => { results := [.lit (.bool false)], args := [d1, d2] }
  | _ => none }
def ChainEndsWrongFalsely : Prop := chainEndsRow.holds Tryd.pinned (OpenSpec.ofChange chainEndsWrong)

/- THE SECOND FORM. 'bulk': how many values and letters a reading holds, each counted each time it is reached (what is shared counts as often as it is met; a slice's spare places count too). A statement '..UptoSaid' is the law's where the arguments, and the package variables that the reading takes, are together of bulk at most 1048576: NARROWER than '..Said'. Prove '..Said' where nothing that the law and all that it calls make is longer than what came in: it says more and counts as full. Else prove '..UptoSaid'. A law counts once. -/
mutual
def uptoBulk {H : Type} : DataW H → Nat
  | .lit (.string bytes) => bytes.length + 1
  | .lit _ => 1
  | .nil => 1
  | .ptr d => uptoBulk d + 1
  | .slice elems spare => uptoBulkAll elems + uptoBulkAll spare + 1
  | .agg parts => uptoBulkAll parts + 1
  | .iface _ d => uptoBulk d + 1
  | .map entries => uptoBulkEntries entries + 1
  | .held _ => 1
def uptoBulkAll {H : Type} : List (DataW H) → Nat
  | [] => 0
  | d :: r => uptoBulk d + uptoBulkAll r
def uptoBulkEntries {H : Type} : List (Lit × DataW H) → Nat
  | [] => 0
  | x :: r => uptoBulkEntry x + uptoBulkEntries r
def uptoBulkEntry {H : Type} : Lit × DataW H → Nat
  | (.string bytes, d) => bytes.length + uptoBulk d + 1
  | (_, d) => uptoBulk d + 1
 end
def uptoSmall : (H : Type) → List (DataW H) → Bool := fun _ ds => decide (uptoBulkAll ds ≤ 1048576)
def OpenSpec.upto (s : _root_.Go.ChangeSpec) : _root_.Go.OpenSpec := { _root_.Go.OpenSpec.ofChange s with cond := some uptoSmall }

/-- 'strakelaw12.ChainAdds', WHERE WHAT IT READS IS OF BULK AT MOST 1048576: true; the input reads as it did. -/
def chainAddsUptoRow : OpenClaim := { program := "ytfifbgpiekpepaadoor", sum := "85ea81d4f4ed7f1b06bdb1e33a6dab3d45e607c06b95cd2931b8d80574f57eaf", func := "strake/strakelaw12.ChainAdds", spec := "chainAdds", named := ["math/bits.deBruijn64tab"], apart := false, laid := [("math/bits.deBruijn64tab", laid_math_bits_deBruijn64tab)], narrowed := true }
def ChainAddsUptoSaid : Prop := chainAddsUptoRow.holds Tryd.pinned (OpenSpec.upto chainAddsSpec)

/-- 'strakelaw12.ChainMuls', WHERE WHAT IT READS IS OF BULK AT MOST 1048576: true; the input reads as it did. -/
def chainMulsUptoRow : OpenClaim := { program := "ytfifbgpiekpepaadoor", sum := "85ea81d4f4ed7f1b06bdb1e33a6dab3d45e607c06b95cd2931b8d80574f57eaf", func := "strake/strakelaw12.ChainMuls", spec := "chainMuls", recurses := true, named := ["math/bits.deBruijn64tab"], apart := false, laid := [("math/bits.deBruijn64tab", laid_math_bits_deBruijn64tab)], narrowed := true }
def ChainMulsUptoSaid : Prop := chainMulsUptoRow.holds Tryd.pinned (OpenSpec.upto chainMulsSpec)

/-- 'strakelaw12.ChainSums', WHERE WHAT IT READS IS OF BULK AT MOST 1048576: true; the input reads as it did. -/
def chainSumsUptoRow : OpenClaim := { program := "ytfifbgpiekpepaadoor", sum := "85ea81d4f4ed7f1b06bdb1e33a6dab3d45e607c06b95cd2931b8d80574f57eaf", func := "strake/strakelaw12.ChainSums", spec := "chainSums", recurses := true, named := ["math/bits.deBruijn64tab"], apart := false, laid := [("math/bits.deBruijn64tab", laid_math_bits_deBruijn64tab)], narrowed := true }
def ChainSumsUptoSaid : Prop := chainSumsUptoRow.holds Tryd.pinned (OpenSpec.upto chainSumsSpec)

/-- 'strakelaw12.ChainFits', WHERE WHAT IT READS IS OF BULK AT MOST 1048576: true; the input reads as it did. -/
def chainFitsUptoRow : OpenClaim := { program := "ytfifbgpiekpepaadoor", sum := "85ea81d4f4ed7f1b06bdb1e33a6dab3d45e607c06b95cd2931b8d80574f57eaf", func := "strake/strakelaw12.ChainFits", spec := "chainFits", named := ["math/bits.deBruijn64tab"], apart := false, laid := [("math/bits.deBruijn64tab", laid_math_bits_deBruijn64tab)], narrowed := true }
def ChainFitsUptoSaid : Prop := chainFitsUptoRow.holds Tryd.pinned (OpenSpec.upto chainFitsSpec)

/-- 'strakelaw12.ChainLaws', WHERE WHAT IT READS IS OF BULK AT MOST 1048576: true; the input reads as it did. -/
def chainLawsUptoRow : OpenClaim := { program := "ytfifbgpiekpepaadoor", sum := "85ea81d4f4ed7f1b06bdb1e33a6dab3d45e607c06b95cd2931b8d80574f57eaf", func := "strake/strakelaw12.ChainLaws", spec := "chainLaws", named := ["math/bits.deBruijn64tab"], apart := false, laid := [("math/bits.deBruijn64tab", laid_math_bits_deBruijn64tab)], narrowed := true }
def ChainLawsUptoSaid : Prop := chainLawsUptoRow.holds Tryd.pinned (OpenSpec.upto chainLawsSpec)

/-- 'strakelaw12.ChainBack', WHERE WHAT IT READS IS OF BULK AT MOST 1048576: true; the input reads as it did. -/
def chainBackUptoRow : OpenClaim := { program := "ytfifbgpiekpepaadoor", sum := "85ea81d4f4ed7f1b06bdb1e33a6dab3d45e607c06b95cd2931b8d80574f57eaf", func := "strake/strakelaw12.ChainBack", spec := "chainBack", named := ["math/bits.deBruijn64tab"], apart := false, laid := [("math/bits.deBruijn64tab", laid_math_bits_deBruijn64tab)], narrowed := true }
def ChainBackUptoSaid : Prop := chainBackUptoRow.holds Tryd.pinned (OpenSpec.upto chainBackSpec)

/-- 'strakelaw12.ChainSwaps', WHERE WHAT IT READS IS OF BULK AT MOST 1048576: true; the input reads as it did. -/
def chainSwapsUptoRow : OpenClaim := { program := "ytfifbgpiekpepaadoor", sum := "85ea81d4f4ed7f1b06bdb1e33a6dab3d45e607c06b95cd2931b8d80574f57eaf", func := "strake/strakelaw12.ChainSwaps", spec := "chainSwaps", named := ["math/bits.deBruijn64tab"], apart := false, laid := [("math/bits.deBruijn64tab", laid_math_bits_deBruijn64tab)], narrowed := true }
def ChainSwapsUptoSaid : Prop := chainSwapsUptoRow.holds Tryd.pinned (OpenSpec.upto chainSwapsSpec)

/-- 'strakelaw12.ChainEnds', WHERE WHAT IT READS IS OF BULK AT MOST 1048576: true; the input reads as it did. -/
def chainEndsUptoRow : OpenClaim := { program := "ytfifbgpiekpepaadoor", sum := "85ea81d4f4ed7f1b06bdb1e33a6dab3d45e607c06b95cd2931b8d80574f57eaf", func := "strake/strakelaw12.ChainEnds", spec := "chainEnds", named := ["math/bits.deBruijn64tab"], apart := false, laid := [("math/bits.deBruijn64tab", laid_math_bits_deBruijn64tab)], narrowed := true }
def ChainEndsUptoSaid : Prop := chainEndsUptoRow.holds Tryd.pinned (OpenSpec.upto chainEndsSpec)

end Rows
end Go.Proofs.YtfifbgpiekpepaaDoor
