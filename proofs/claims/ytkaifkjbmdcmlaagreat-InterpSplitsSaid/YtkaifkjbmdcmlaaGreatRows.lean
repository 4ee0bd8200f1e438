/-
  No cell of these rows narrows 'for every input' (looked for: loops, veiled, ifaces, maps, wideKeys, modest, calm, conditions, laid).
  DERIVED. THE GIVEN ROWS OF THIS SEAT. 12 by the template 'for every input the law returns true; each argument reads behind the call as it read before'; 0 by the template 'total and deterministic' (their statements: YtkaifkjbmdcmlaaGreatTotals.lean).
  GIVEN WITH THE SEED: the statements are not yours to turn. If you find one false, say at which input.
  Laid BY PROGRAM, IN A SANDBOX (cutbox-rows.mjs): the forced cells as the released guide's own fill.sh prints them over the translation 45052bd3e6121dfd… (all of the seat's roots in one cut). By AI agents, Wed Nov 11 2026. No macro, syntax, notation, axiom, sorry.
-/
import Derived.Test.YtkaifkjbmdcmlaaGreatChecked
import GoSem.Claim
import GoSem.ClaimJoined
import GoSem.ClaimMapViews
import Derived.JoinedTies
import Derived.KernelRfl
namespace Go.Proofs.YtkaifkjbmdcmlaaGreat
/- THE CELL 'sum', in the pinned program and in every row, IS THE sha256 OF THE DUMP (.gsa) THAT YtkaifkjbmdcmlaaGreatProg.lean LOADS. Nothing in Lean hashes anything: it is a label: what it is worth is what the hold of that sum in a sandbox is worth. -/
noncomputable def Tryz.pinned : Pinned := { name := "ytkaifkjbmdcmlaagreat", sum := "45052bd3e6121dfd5bcf13b0ec8bfbab7b7e89eb99707f1c58d351577035653f", checked := Tryz.checked }
namespace Rows
def none {H : Type} : Left H := { results := [], args := [] }

/-- 'strakelaw06.InterpRuns': WHATEVER THE INPUT: true; the input reads as it did. -/
def interpRunsSpec : ChangeSpec := { name := "interpRuns", fn := fun _ => fun
  | [d1, d2, d3] => { results := [.lit (.bool true)], args := [d1, d2, d3] }
  | _ => none }
def interpRunsRow : OpenClaim := { program := "ytkaifkjbmdcmlaagreat", sum := "45052bd3e6121dfd5bcf13b0ec8bfbab7b7e89eb99707f1c58d351577035653f", func := "strake/strakelaw06.InterpRuns", spec := "interpRuns", unfollowed := true, recurses := true, apart := false }
def InterpRunsSaid : Prop := interpRunsRow.holds Tryz.pinned (OpenSpec.ofChange interpRunsSpec)

/-- ITS FALSE NEIGHBOUR: 'it returns false'. Refute it at one input. -/
def interpRunsWrong : ChangeSpec := { name := "interpRuns", fn := fun _ => fun
  | [d1, d2, d3] => { results := [.lit (.bool false)], args := [d1, d2, d3] }
  | _ => none }
def InterpRunsWrongFalsely : Prop := interpRunsRow.holds Tryz.pinned (OpenSpec.ofChange interpRunsWrong)

/-- 'strakelaw06.InterpCalc': WHATEVER THE INPUT: true; the input reads as it did. -/
def interpCalcSpec : ChangeSpec := { name := "interpCalc", fn := fun _ => fun
  | [d1, d2] => { results := [.lit (.bool true)], args := [d1, d2] }
  | _ => none }
def interpCalcRow : OpenClaim := { program := "ytkaifkjbmdcmlaagreat", sum := "45052bd3e6121dfd5bcf13b0ec8bfbab7b7e89eb99707f1c58d351577035653f", func := "strake/strakelaw06.InterpCalc", spec := "interpCalc", unfollowed := true, recurses := true, apart := false }
def InterpCalcSaid : Prop := interpCalcRow.holds Tryz.pinned (OpenSpec.ofChange interpCalcSpec)

/-- ITS FALSE NEIGHBOUR: 'it returns false'. Refute it at one input. -/
def interpCalcWrong : ChangeSpec := { name := "interpCalc", fn := fun _ => fun
  | [d1, d2] => { results := [.lit (.bool false)], args := [d1, d2] }
  | _ => none }
def InterpCalcWrongFalsely : Prop := interpCalcRow.holds Tryz.pinned (OpenSpec.ofChange interpCalcWrong)

/-- 'strakelaw06.InterpFuel': WHATEVER THE INPUT: true; the input reads as it did. -/
def interpFuelSpec : ChangeSpec := { name := "interpFuel", fn := fun _ => fun
  | [d1, d2, d3, d4] => { results := [.lit (.bool true)], args := [d1, d2, d3, d4] }
  | _ => none }
def interpFuelRow : OpenClaim := { program := "ytkaifkjbmdcmlaagreat", sum := "45052bd3e6121dfd5bcf13b0ec8bfbab7b7e89eb99707f1c58d351577035653f", func := "strake/strakelaw06.InterpFuel", spec := "interpFuel", unfollowed := true, recurses := true, apart := false }
def InterpFuelSaid : Prop := interpFuelRow.holds Tryz.pinned (OpenSpec.ofChange interpFuelSpec)

/-- ITS FALSE NEIGHBOUR: 'it returns false'. Refute it at one input. -/
def interpFuelWrong : ChangeSpec := { name := "interpFuel", fn := fun _ => fun
  | [d1, d2, d3, d4] => { results := [.lit (.bool false)], args := [d1, d2, d3, d4] }
  | _ => none }
def InterpFuelWrongFalsely : Prop := interpFuelRow.holds Tryz.pinned (OpenSpec.ofChange interpFuelWrong)

/-- 'strakelaw06.InterpVisits': WHATEVER THE INPUT: true; the input reads as it did. -/
def interpVisitsSpec : ChangeSpec := { name := "interpVisits", fn := fun _ => fun
  | [d1, d2, d3] => { results := [.lit (.bool true)], args := [d1, d2, d3] }
  | _ => none }
def interpVisitsRow : OpenClaim := { program := "ytkaifkjbmdcmlaagreat", sum := "45052bd3e6121dfd5bcf13b0ec8bfbab7b7e89eb99707f1c58d351577035653f", func := "strake/strakelaw06.InterpVisits", spec := "interpVisits", unfollowed := true, recurses := true, apart := false }
def InterpVisitsSaid : Prop := interpVisitsRow.holds Tryz.pinned (OpenSpec.ofChange interpVisitsSpec)

/-- ITS FALSE NEIGHBOUR: 'it returns false'. Refute it at one input. -/
def interpVisitsWrong : ChangeSpec := { name := "interpVisits", fn := fun _ => fun
  | [d1, d2, d3] => { results := [.lit (.bool false)], args := [d1, d2, d3] }
  | _ => none }
def InterpVisitsWrongFalsely : Prop := interpVisitsRow.holds Tryz.pinned (OpenSpec.ofChange interpVisitsWrong)

/-- 'strakelaw06.InterpSplits': WHATEVER THE INPUT: true; the input reads as it did. -/
def interpSplitsSpec : ChangeSpec := { name := "interpSplits", fn := fun _ => fun
  | [d1, d2, d3, d4] => { results := [.lit (.bool true)], args := [d1, d2, d3, d4] }
  | _ => none }
def interpSplitsRow : OpenClaim := { program := "ytkaifkjbmdcmlaagreat", sum := "45052bd3e6121dfd5bcf13b0ec8bfbab7b7e89eb99707f1c58d351577035653f", func := "strake/strakelaw06.InterpSplits", spec := "interpSplits", unfollowed := true, recurses := true, apart := false }
def InterpSplitsSaid : Prop := interpSplitsRow.holds Tryz.pinned (OpenSpec.ofChange interpSplitsSpec)

/-- ITS FALSE NEIGHBOUR: 'it returns false'. Refute it at one input. -/
def interpSplitsWrong : ChangeSpec := { name := "interpSplits", fn := fun _ => fun
  | [d1, d2, d3, d4] => { results := [.lit (.bool false)], args := [d1, d2, d3, d4] }
  | _ => none }
def InterpSplitsWrongFalsely : Prop := interpSplitsRow.holds Tryz.pinned (OpenSpec.ofChange interpSplitsWrong)

/-- 'strakelaw06.InterpSpare': WHATEVER THE INPUT: true; the input reads as it did. -/
def interpSpareSpec : ChangeSpec := { name := "interpSpare", fn := fun _ => fun
  | [d1, d2, d3] => { results := [.lit (.bool true)], args := [d1, d2, d3] }
  | _ => none }
def interpSpareRow : OpenClaim := { program := "ytkaifkjbmdcmlaagreat", sum := "45052bd3e6121dfd5bcf13b0ec8bfbab7b7e89eb99707f1c58d351577035653f", func := "strake/strakelaw06.InterpSpare", spec := "interpSpare", unfollowed := true, recurses := true, apart := false }
def InterpSpareSaid : Prop := interpSpareRow.holds Tryz.pinned (OpenSpec.ofChange interpSpareSpec)

/-- ITS FALSE NEIGHBOUR: 'it returns false'. Refute it at one input. -/
def interpSpareWrong : ChangeSpec := { name := "interpSpare", fn := fun _ => fun
  | [d1, d2, d3] => { results := [.lit (.bool false)], args := [d1, d2, d3] }
  | _ => none }
def InterpSpareWrongFalsely : Prop := interpSpareRow.holds Tryz.pinned (OpenSpec.ofChange interpSpareWrong)

/-- 'strakelaw06.InterpEnds': WHATEVER THE INPUT: true; the input reads as it did. -/
def interpEndsSpec : ChangeSpec := { name := "interpEnds", fn := fun _ => fun
  | [d1, d2, d3] => { results := [.lit (.bool true)], args := [d1, d2, d3] }
  | _ => none }
def interpEndsRow : OpenClaim := { program := "ytkaifkjbmdcmlaagreat", sum := "45052bd3e6121dfd5bcf13b0ec8bfbab7b7e89eb99707f1c58d351577035653f", func := "strake/strakelaw06.InterpEnds", spec := "interpEnds", unfollowed := true, recurses := true, apart := false }
def InterpEndsSaid : Prop := interpEndsRow.holds Tryz.pinned (OpenSpec.ofChange interpEndsSpec)

/-- ITS FALSE NEIGHBOUR: 'it returns false'. Refute it at one input. -/
def interpEndsWrong : ChangeSpec := { name := "interpEnds", fn := fun _ => fun
  | [d1, d2, d3] => { results := [.lit (.bool false)], args := [d1, d2, d3] }
  | _ => none }
def InterpEndsWrongFalsely : Prop := interpEndsRow.holds Tryz.pinned (OpenSpec.ofChange interpEndsWrong)

/-- 'strakelaw07.EditReplaces': WHATEVER THE INPUT: true; the input reads as it did. -/
def editReplacesSpec : ChangeSpec := { name := "editReplaces", fn := fun _ => fun
  | [d1, d2, d3] => { results := [.lit (.bool true)], args := [d1, d2, d3] }
  | _ => none }
def editReplacesRow : OpenClaim := { program := "ytkaifkjbmdcmlaagreat", sum := "45052bd3e6121dfd5bcf13b0ec8bfbab7b7e89eb99707f1c58d351577035653f", func := "strake/strakelaw07.EditReplaces", spec := "editReplaces", unfollowed := true, recurses := true, apart := false }
def EditReplacesSaid : Prop := editReplacesRow.holds Tryz.pinned (OpenSpec.ofChange editReplacesSpec)

/-- ITS FALSE NEIGHBOUR: 'it returns false'. Refute it at one input. -/
def editReplacesWrong : ChangeSpec := { name := "editReplaces", fn := fun _ => fun
  | [d1, d2, d3] => { results := [.lit (.bool false)], args := [d1, d2, d3] }
  | _ => none }
def EditReplacesWrongFalsely : Prop := editReplacesRow.holds Tryz.pinned (OpenSpec.ofChange editReplacesWrong)

/-- 'strakelaw07.EditRenames': WHATEVER THE INPUT: true; the input reads as it did. -/
def editRenamesSpec : ChangeSpec := { name := "editRenames", fn := fun _ => fun
  | [d1, d2] => { results := [.lit (.bool true)], args := [d1, d2] }
  | _ => none }
def editRenamesRow : OpenClaim := { program := "ytkaifkjbmdcmlaagreat", sum := "45052bd3e6121dfd5bcf13b0ec8bfbab7b7e89eb99707f1c58d351577035653f", func := "strake/strakelaw07.EditRenames", spec := "editRenames", unfollowed := true, recurses := true, apart := false }
def EditRenamesSaid : Prop := editRenamesRow.holds Tryz.pinned (OpenSpec.ofChange editRenamesSpec)

/-- ITS FALSE NEIGHBOUR: 'it returns false'. Refute it at one input. -/
def editRenamesWrong : ChangeSpec := { name := "editRenames", fn := fun _ => fun
  | [d1, d2] => { results := [.lit (.bool false)], args := [d1, d2] }
  | _ => none }
def EditRenamesWrongFalsely : Prop := editRenamesRow.holds Tryz.pinned (OpenSpec.ofChange editRenamesWrong)

/-- 'strakelaw07.EditSame': WHATEVER THE INPUT: true; the input reads as it did. -/
def editSameSpec : ChangeSpec := { name := "editSame", fn := fun _ => fun
  | [d1, d2] => { results := [.lit (.bool true)], args := [d1, d2] }
  | _ => none }
def editSameRow : OpenClaim := { program := "ytkaifkjbmdcmlaagreat", sum := "45052bd3e6121dfd5bcf13b0ec8bfbab7b7e89eb99707f1c58d351577035653f", func := "strake/strakelaw07.EditSame", spec := "editSame", unfollowed := true, recurses := true, apart := false }
def EditSameSaid : Prop := editSameRow.holds Tryz.pinned (OpenSpec.ofChange editSameSpec)

/-- ITS FALSE NEIGHBOUR: 'it returns false'. Refute it at one input. -/
def editSameWrong : ChangeSpec := { name := "editSame", fn := fun _ => fun
  | [d1, d2] => { results := [.lit (.bool false)], args := [d1, d2] }
  | _ => none }
def EditSameWrongFalsely : Prop := editSameRow.holds Tryz.pinned (OpenSpec.ofChange editSameWrong)

/-- 'strakelaw07.EditBack': WHATEVER THE INPUT: true; the input reads as it did. -/
def editBackSpec : ChangeSpec := { name := "editBack", fn := fun _ => fun
  | [d1, d2, d3] => { results := [.lit (.bool true)], args := [d1, d2, d3] }
  | _ => none }
def editBackRow : OpenClaim := { program := "ytkaifkjbmdcmlaagreat", sum := "45052bd3e6121dfd5bcf13b0ec8bfbab7b7e89eb99707f1c58d351577035653f", func := "strake/strakelaw07.EditBack", spec := "editBack", unfollowed := true, recurses := true, apart := false }
def EditBackSaid : Prop := editBackRow.holds Tryz.pinned (OpenSpec.ofChange editBackSpec)

/-- ITS FALSE NEIGHBOUR: 'it returns false'. Refute it at one input. -/
def editBackWrong : ChangeSpec := { name := "editBack", fn := fun _ => fun
  | [d1, d2, d3] => { results := [.lit (.bool false)], args := [d1, d2, d3] }
  | _ => none }
def EditBackWrongFalsely : Prop := editBackRow.holds Tryz.pinned (OpenSpec.ofChange editBackWrong)

/-- 'strakelaw07.EditUnseen': WHATEVER THE INPUT: true; the input reads as it did. -/
def editUnseenSpec : ChangeSpec := { name := "editUnseen", fn := fun _ => fun
  | [d1, d2, d3] => { results := [.lit (.bool true)], args := [d1, d2, d3] }
  | _ => none }
def editUnseenRow : OpenClaim := { program := "ytkaifkjbmdcmlaagreat", sum := "45052bd3e6121dfd5bcf13b0ec8bfbab7b7e89eb99707f1c58d351577035653f", func := "strake/strakelaw07.EditUnseen", spec := "editUnseen", unfollowed := true, recurses := true, apart := false }
def EditUnseenSaid : Prop := editUnseenRow.holds Tryz.pinned (OpenSpec.ofChange editUnseenSpec)

/-- ITS FALSE NEIGHBOUR: 'it returns false'. Refute it at one input. -/
def editUnseenWrong : ChangeSpec := { name := "editUnseen", fn := fun _ => fun
  | [d1, d2, d3] => { results := [.lit (.bool false)], args := [d1, d2, d3] }
  | _ => none }
def EditUnseenWrongFalsely : Prop := editUnseenRow.holds Tryz.pinned (OpenSpec.ofChange editUnseenWrong)

/- THE SECOND FORM. 'bulk': how many values and letters a reading holds, each counted each time it is reached (what is shared counts as often as it is met; a slice's spare places count too). A statement '..UptoSaid' is the law's where the arguments, and the package variables that the reading takes, are together of bulk at most 1048576: NARROWER than '..Said'. Prove '..Said' where nothing that the law and all that it calls make is longer than what came in: it says more and counts as full. Else prove '..UptoSaid'. A law counts once. -/
mutual
def uptoBulk {H : Type} : DataW H → Nat
  | .lit (.string bytes) => bytes.length + 1
  | .lit _ => 1
  | .nil => 1
  | .ptr d => uptoBulk d + 1
  | .slice elems spare => uptoBulkAll elems + uptoBulkAll spare + 1
  | .agg parts => uptoBulkAll parts + 1
  | .iface _ d => uptoBulk d + 1
  | .map entries => uptoBulkEntries entries + 1
  | .held _ => 1
def uptoBulkAll {H : Type} : List (DataW H) → Nat
  | [] => 0
  | d :: r => uptoBulk d + uptoBulkAll r
def uptoBulkEntries {H : Type} : List (Lit × DataW H) → Nat
  | [] => 0
  | x :: r => uptoBulkEntry x + uptoBulkEntries r
def uptoBulkEntry {H : Type} : Lit × DataW H → Nat
  | (.string bytes, d) => bytes.length + uptoBulk d + 1
  | (_, d) => uptoBulk d + 1
 end
def uptoSmall : (H : Type) → List (DataW H) → Bool := fun _ ds => decide (uptoBulkAll ds ≤ 1048576)
def OpenSpec.upto (s : _root_.Go.ChangeSpec) : _root_.Go.OpenSpec := { _root_.Go.OpenSpec.ofChange s with cond := some uptoSmall }

/-- 'strakelaw06.InterpRuns', WHERE WHAT IT READS IS OF BULK AT MOST 1048576: true; the input reads as it did. -/
def interpRunsUptoRow : OpenClaim := { program := "ytkaifkjbmdcmlaagreat", sum := "45052bd3e6121dfd5bcf13b0ec8bfbab7b7e89eb99707f1c58d351577035653f", func := "strake/strakelaw06.InterpRuns", spec := "interpRuns", unfollowed := true, recurses := true, apart := false, narrowed := true }
def InterpRunsUptoSaid : Prop := interpRunsUptoRow.holds Tryz.pinned (OpenSpec.upto interpRunsSpec)

/-- 'strakelaw06.InterpCalc', WHERE WHAT IT READS IS OF BULK AT MOST 1048576: true; the input reads as it did. -/
def interpCalcUptoRow : OpenClaim := { program := "ytkaifkjbmdcmlaagreat", sum := "45052bd3e6121dfd5bcf13b0ec8bfbab7b7e89eb99707f1c58d351577035653f", func := "strake/strakelaw06.InterpCalc", spec := "interpCalc", unfollowed := true, recurses := true, apart := false, narrowed := true }
def InterpCalcUptoSaid : Prop := interpCalcUptoRow.holds Tryz.pinned (OpenSpec.upto interpCalcSpec)

/-- 'strakelaw06.InterpFuel', WHERE WHAT IT READS IS OF BULK AT MOST 1048576: true; the input reads as it did. -/
def interpFuelUptoRow : OpenClaim := { program := "ytkaifkjbmdcmlaagreat", sum := "45052bd3e6121dfd5bcf13b0ec8bfbab7b7e89eb99707f1c58d351577035653f", func := "strake/strakelaw06.InterpFuel", spec := "interpFuel", unfollowed := true, recurses := true, apart := false, narrowed := true }
def InterpFuelUptoSaid : Prop := interpFuelUptoRow.holds Tryz.pinned (OpenSpec.upto interpFuelSpec)

/-- 'strakelaw06.InterpVisits', WHERE WHAT IT READS IS OF BULK AT MOST 1048576: true; the input reads as it did. -/
def interpVisitsUptoRow : OpenClaim := { program := "ytkaifkjbmdcmlaagreat", sum := "45052bd3e6121dfd5bcf13b0ec8bfbab7b7e89eb99707f1c58d351577035653f", func := "strake/strakelaw06.InterpVisits", spec := "interpVisits", unfollowed := true, recurses := true, apart := false, narrowed := true }
def InterpVisitsUptoSaid : Prop := interpVisitsUptoRow.holds Tryz.pinned (OpenSpec.upto interpVisitsSpec)

/-- 'strakelaw06.InterpSplits', WHERE WHAT IT READS IS OF BULK AT MOST 1048576: true; the input reads as it did. -/
def interpSplitsUptoRow : OpenClaim := { program := "ytkaifkjbmdcmlaagreat", sum := "45052bd3e6121dfd5bcf13b0ec8bfbab7b7e89eb99707f1c58d351577035653f", func := "strake/strakelaw06.InterpSplits", spec := "interpSplits", unfollowed := true, recurses := true, apart := false, narrowed := true }
def InterpSplitsUptoSaid : Prop := interpSplitsUptoRow.holds Tryz.pinned (OpenSpec.upto interpSplitsSpec)

/-- 'strakelaw06.InterpSpare', WHERE WHAT IT READS IS OF BULK AT MOST 1048576: true; the input reads as it did. -/
def interpSpareUptoRow : OpenClaim := { program := "ytkaifkjbmdcmlaagreat", sum := "45052bd3e6121dfd5bcf13b0ec8bfbab7b7e89eb99707f1c58d351577035653f", func := "strake/strakelaw06.InterpSpare", spec := "interpSpare", unfollowed := true, recurses := true, apart := false, narrowed := true }
def InterpSpareUptoSaid : Prop := interpSpareUptoRow.holds Tryz.pinned (OpenSpec.upto interpSpareSpec)

/-- 'strakelaw06.InterpEnds', WHERE WHAT IT READS IS OF BULK AT MOST 1048576: true; the input reads as it did. -/
def interpEndsUptoRow : OpenClaim := { program := "ytkaifkjbmdcmlaagreat", sum := "45052bd3e6121dfd5bcf13b0ec8bfbab7b7e89eb99707f1c58d351577035653f", func := "strake/strakelaw06.InterpEnds", spec := "interpEnds", unfollowed := true, recurses := true, apart := false, narrowed := true }
def InterpEndsUptoSaid : Prop := interpEndsUptoRow.holds Tryz.pinned (OpenSpec.upto interpEndsSpec)

/-- 'strakelaw07.EditReplaces', WHERE WHAT IT READS IS OF BULK AT MOST 1048576: true; the input reads as it did. -/
def editReplacesUptoRow : OpenClaim := { program := "ytkaifkjbmdcmlaagreat", sum := "45052bd3e6121dfd5bcf13b0ec8bfbab7b7e89eb99707f1c58d351577035653f", func := "strake/strakelaw07.EditReplaces", spec := "editReplaces", unfollowed := true, recurses := true, apart := false, narrowed := true }
def EditReplacesUptoSaid : Prop := editReplacesUptoRow.holds Tryz.pinned (OpenSpec.upto editReplacesSpec)

/-- 'strakelaw07.EditRenames', WHERE WHAT IT READS IS OF BULK AT MOST 1048576: true; the input reads as it did. -/
def editRenamesUptoRow : OpenClaim := { program := "ytkaifkjbmdcmlaagreat", sum := "45052bd3e6121dfd5bcf13b0ec8bfbab7b7e89eb99707f1c58d351577035653f", func := "strake/strakelaw07.EditRenames", spec := "editRenames", unfollowed := true, recurses := true, apart := false, narrowed := true }
def EditRenamesUptoSaid : Prop := editRenamesUptoRow.holds Tryz.pinned (OpenSpec.upto editRenamesSpec)

/-- 'strakelaw07.EditSame', WHERE WHAT IT READS IS OF BULK AT MOST 1048576: true; the input reads as it did. -/
def editSameUptoRow : OpenClaim := { program := "ytkaifkjbmdcmlaagreat", sum := "45052bd3e6121dfd5bcf13b0ec8bfbab7b7e89eb99707f1c58d351577035653f", func := "strake/strakelaw07.EditSame", spec := "editSame", unfollowed := true, recurses := true, apart := false, narrowed := true }
def EditSameUptoSaid : Prop := editSameUptoRow.holds Tryz.pinned (OpenSpec.upto editSameSpec)

/-- 'strakelaw07.EditBack', WHERE WHAT IT READS IS OF BULK AT MOST 1048576: true; the input reads as it did. -/
def editBackUptoRow : OpenClaim := { program := "ytkaifkjbmdcmlaagreat", sum := "45052bd3e6121dfd5bcf13b0ec8bfbab7b7e89eb99707f1c58d351577035653f", func := "strake/strakelaw07.EditBack", spec := "editBack", unfollowed := true, recurses := true, apart := false, narrowed := true }
def EditBackUptoSaid : Prop := editBackUptoRow.holds Tryz.pinned (OpenSpec.upto editBackSpec)

/-- 'strakelaw07.EditUnseen', WHERE WHAT IT READS IS OF BULK AT MOST 1048576: true; the input reads as it did. -/
def editUnseenUptoRow : OpenClaim := { program := "ytkaifkjbmdcmlaagreat", sum := "45052bd3e6121dfd5bcf13b0ec8bfbab7b7e89eb99707f1c58d351577035653f", func := "strake/strakelaw07.EditUnseen", spec := "editUnseen", unfollowed := true, recurses := true, apart := false, narrowed := true }
def EditUnseenUptoSaid : Prop := editUnseenUptoRow.holds Tryz.pinned (OpenSpec.upto editUnseenSpec)

end Rows
end Go.Proofs.YtkaifkjbmdcmlaaGreat
