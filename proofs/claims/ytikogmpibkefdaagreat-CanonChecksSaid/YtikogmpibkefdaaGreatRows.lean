/-
  No cell of these rows narrows 'for every input' (looked for: loops, veiled, ifaces, maps, wideKeys, modest, calm, conditions, laid).
  DERIVED. THE GIVEN ROWS OF THIS SEAT. 9 by the template 'for every input the law returns true; each argument reads behind the call as it read before'; 0 by the template 'total and deterministic' (their statements: YtikogmpibkefdaaGreatTotals.lean).
  GIVEN WITH THE SEED: the statements are not yours to turn. If you find one false, say at which input.
  Laid BY PROGRAM, IN A SANDBOX (cutbox-rows.mjs): the forced cells as the released guide's own fill.sh prints them over the translation fb8bfe9b8efed09e… (all of the seat's roots in one cut). By AI agents, Wed Nov 11 2026. No macro, syntax, notation, axiom, sorry.
-/
import Derived.Test.YtikogmpibkefdaaGreatChecked
import GoSem.Claim
import GoSem.ClaimJoined
import GoSem.ClaimMapViews
import Derived.JoinedTies
import Derived.KernelRfl
namespace Go.Proofs.YtikogmpibkefdaaGreat
/- THE CELL 'sum', in the pinned program and in every row, IS THE sha256 OF THE DUMP (.gsa) THAT YtikogmpibkefdaaGreatProg.lean LOADS. Nothing in Lean hashes anything: it is a label: what it is worth is what the hold of that sum in a sandbox is worth. -/
noncomputable def Tryz.pinned : Pinned := { name := "ytikogmpibkefdaagreat", sum := "fb8bfe9b8efed09e730e7f0af11339fcc82ef50c461e46b5a1d5c88ec9be5191", checked := Tryz.checked }
namespace Rows
def none {H : Type} : Left H := { results := [], args := [] }

/-- 'strakelaw07.EditReplaces': WHATEVER THE INPUT: true; the input reads as it did. -/
def editReplacesSpec : ChangeSpec := { name := "editReplaces", fn := fun _ => fun
  | [d1, d2, d3] => { results := [.lit (.bool true)], args := [d1, d2, d3] }
  | _ => none }
def editReplacesRow : OpenClaim := { program := "ytikogmpibkefdaagreat", sum := "fb8bfe9b8efed09e730e7f0af11339fcc82ef50c461e46b5a1d5c88ec9be5191", func := "strake/strakelaw07.EditReplaces", spec := "editReplaces", unfollowed := true, recurses := true, apart := false }
def EditReplacesSaid : Prop := editReplacesRow.holds Tryz.pinned (OpenSpec.ofChange editReplacesSpec)

/-- ITS FALSE NEIGHBOUR: 'it returns false'. Refute it at one input. -/
def editReplacesWrong : ChangeSpec := { name := "editReplaces", fn := fun _ => fun
  | [d1, d2, d3] => { results := [.lit (.bool false)], args := [d1, d2, d3] }
  | _ => none }
def EditReplacesWrongFalsely : Prop := editReplacesRow.holds Tryz.pinned (OpenSpec.ofChange editReplacesWrong)

/-- 'strakelaw07.EditRenames': WHATEVER THE INPUT: true; the input reads as it did. -/
def editRenamesSpec : ChangeSpec := { name := "editRenames", fn := fun _ => fun
  | [d1, d2] => { results := [.lit (.bool true)], args := [d1, d2] }
  | _ => none }
def editRenamesRow : OpenClaim := { program := "ytikogmpibkefdaagreat", sum := "fb8bfe9b8efed09e730e7f0af11339fcc82ef50c461e46b5a1d5c88ec9be5191", func := "strake/strakelaw07.EditRenames", spec := "editRenames", unfollowed := true, recurses := true, apart := false }
def EditRenamesSaid : Prop := editRenamesRow.holds Tryz.pinned (OpenSpec.ofChange editRenamesSpec)

/-- ITS FALSE NEIGHBOUR: 'it returns false'. Refute it at one input. -/
def editRenamesWrong : ChangeSpec := { name := "editRenames", fn := fun _ => fun
  | [d1, d2] => { results := [.lit (.bool false)], args := [d1, d2] }
  | _ => none }
def EditRenamesWrongFalsely : Prop := editRenamesRow.holds Tryz.pinned (OpenSpec.ofChange editRenamesWrong)

/-- 'strakelaw07.EditSame': WHATEVER THE INPUT: true; the input reads as it did. -/
def editSameSpec : ChangeSpec := { name := "editSame", fn := fun _ => fun
  | [d1, d2] => { results := [.lit (.bool true)], args := [d1, d2] }
  | _ => none }
def editSameRow : OpenClaim := { program := "ytikogmpibkefdaagreat", sum := "fb8bfe9b8efed09e730e7f0af11339fcc82ef50c461e46b5a1d5c88ec9be5191", func := "strake/strakelaw07.EditSame", spec := "editSame", unfollowed := true, recurses := true, apart := false }
def EditSameSaid : Prop := editSameRow.holds Tryz.pinned (OpenSpec.ofChange editSameSpec)

/-- ITS FALSE NEIGHBOUR: 'it returns false'. Refute it at one input. -/
def editSameWrong : ChangeSpec := { name := "editSame", fn := fun _ => fun
  | [d1, d2] => { results := [.lit (.bool false)], args := [d1, d2] }
  | _ => none }
def EditSameWrongFalsely : Prop := editSameRow.holds Tryz.pinned (OpenSpec.ofChange editSameWrong)

/-- 'strakelaw07.EditBack': WHATEVER THE INPUT: true; the input reads as it did. -/
def editBackSpec : ChangeSpec := { name := "editBack", fn := fun _ => fun
  | [d1, d2, d3] => { results := [.lit (.bool true)], args := [d1, d2, d3] }
  | _ => none }
def editBackRow : OpenClaim := { program := "ytikogmpibkefdaagreat", sum := "fb8bfe9b8efed09e730e7f0af11339fcc82ef50c461e46b5a1d5c88ec9be5191", func := "strake/strakelaw07.EditBack", spec := "editBack", unfollowed := true, recurses := true, apart := false }
def EditBackSaid : Prop := editBackRow.holds Tryz.pinned (OpenSpec.ofChange editBackSpec)

/-- ITS FALSE NEIGHBOUR: 'it returns false'. Refute it at one input. -/
def editBackWrong : ChangeSpec := { name := "editBack", fn := fun _ => fun
  | [d1, d2, d3] => { results := [.lit (.bool false)], args := [d1, d2, d3] }
  | _ => none }
def EditBackWrongFalsely : Prop := editBackRow.holds Tryz.pinned (OpenSpec.ofChange editBackWrong)

/-- 'strakelaw07.EditUnseen': WHATEVER THE INPUT: true; the input reads as it did. -/
def editUnseenSpec : ChangeSpec := { name := "editUnseen", fn := fun _ => fun
  | [d1, d2, d3] => { results := [.lit (.bool true)], args := [d1, d2, d3] }
  | _ => none }
def editUnseenRow : OpenClaim := { program := "ytikogmpibkefdaagreat", sum := "fb8bfe9b8efed09e730e7f0af11339fcc82ef50c461e46b5a1d5c88ec9be5191", func := "strake/strakelaw07.EditUnseen", spec := "editUnseen", unfollowed := true, recurses := true, apart := false }
def EditUnseenSaid : Prop := editUnseenRow.holds Tryz.pinned (OpenSpec.ofChange editUnseenSpec)

/-- ITS FALSE NEIGHBOUR: 'it returns false'. Refute it at one input. -/
def editUnseenWrong : ChangeSpec := { name := "editUnseen", fn := fun _ => fun
  | [d1, d2, d3] => { results := [.lit (.bool false)], args := [d1, d2, d3] }
  | _ => none }
def EditUnseenWrongFalsely : Prop := editUnseenRow.holds Tryz.pinned (OpenSpec.ofChange editUnseenWrong)

/-- 'strakelaw10.CanonChecks': WHATEVER THE INPUT: true; the input reads as it did. -/
def canonChecksSpec : ChangeSpec := { name := "canonChecks", fn := fun _ => fun
  | [d] => { results := [.lit (.bool true)], args := [d] }
  | _ => none }
def canonChecksRow : OpenClaim := { program := "ytikogmpibkefdaagreat", sum := "fb8bfe9b8efed09e730e7f0af11339fcc82ef50c461e46b5a1d5c88ec9be5191", func := "strake/strakelaw10.CanonChecks", spec := "canonChecks", unfollowed := true, recurses := true, apart := false }
def CanonChecksSaid : Prop := canonChecksRow.holds Tryz.pinned (OpenSpec.ofChange canonChecksSpec)

/-- ITS FALSE NEIGHBOUR: 'it returns false'. Refute it at one input. -/
def canonChecksWrong : ChangeSpec := { name := "canonChecks", fn := fun _ => fun
  | [d] => { results := [.lit (.bool false)], args := [d] }
  | _ => none }
def CanonChecksWrongFalsely : Prop := canonChecksRow.holds Tryz.pinned (OpenSpec.ofChange canonChecksWrong)

/-- 'strakelaw10.CanonMakes': WHATEVER THE INPUT: true; the input reads as it did. -/
def canonMakesSpec : ChangeSpec := { name := "canonMakes", fn := fun _ => fun
  | [d] => { results := [.lit (.bool true)], args := [d] }
  | _ => none }
def canonMakesRow : OpenClaim := { program := "ytikogmpibkefdaagreat", sum := "fb8bfe9b8efed09e730e7f0af11339fcc82ef50c461e46b5a1d5c88ec9be5191", func := "strake/strakelaw10.CanonMakes", spec := "canonMakes", unfollowed := true, recurses := true, apart := false }
def CanonMakesSaid : Prop := canonMakesRow.holds Tryz.pinned (OpenSpec.ofChange canonMakesSpec)

/-- ITS FALSE NEIGHBOUR: 'it returns false'. Refute it at one input. -/
def canonMakesWrong : ChangeSpec := { name := "canonMakes", fn := fun _ => fun
  | [d] => { results := [.lit (.bool false)], args := [d] }
  | _ => none }
def CanonMakesWrongFalsely : Prop := canonMakesRow.holds Tryz.pinned (OpenSpec.ofChange canonMakesWrong)

/-- 'strakelaw10.CanonRuns': WHATEVER THE INPUT: true; the input reads as it did. -/
def canonRunsSpec : ChangeSpec := { name := "canonRuns", fn := fun _ => fun
  | [d1, d2, d3] => { results := [.lit (.bool true)], args := [d1, d2, d3] }
  | _ => none }
def canonRunsRow : OpenClaim := { program := "ytikogmpibkefdaagreat", sum := "fb8bfe9b8efed09e730e7f0af11339fcc82ef50c461e46b5a1d5c88ec9be5191", func := "strake/strakelaw10.CanonRuns", spec := "canonRuns", unfollowed := true, recurses := true, apart := false }
def CanonRunsSaid : Prop := canonRunsRow.holds Tryz.pinned (OpenSpec.ofChange canonRunsSpec)

/-- ITS FALSE NEIGHBOUR: 'it returns false'. Refute it at one input. -/
def canonRunsWrong : ChangeSpec := { name := "canonRuns", fn := fun _ => fun
  | [d1, d2, d3] => { results := [.lit (.bool false)], args := [d1, d2, d3] }
  | _ => none }
def CanonRunsWrongFalsely : Prop := canonRunsRow.holds Tryz.pinned (OpenSpec.ofChange canonRunsWrong)

/-- 'strakelaw10.CanonAgain': WHATEVER THE INPUT: true; the input reads as it did. -/
def canonAgainSpec : ChangeSpec := { name := "canonAgain", fn := fun _ => fun
  | [d1, d2] => { results := [.lit (.bool true)], args := [d1, d2] }
  | _ => none }
def canonAgainRow : OpenClaim := { program := "ytikogmpibkefdaagreat", sum := "fb8bfe9b8efed09e730e7f0af11339fcc82ef50c461e46b5a1d5c88ec9be5191", func := "strake/strakelaw10.CanonAgain", spec := "canonAgain", unfollowed := true, recurses := true, apart := false }
def CanonAgainSaid : Prop := canonAgainRow.holds Tryz.pinned (OpenSpec.ofChange canonAgainSpec)

/-- ITS FALSE NEIGHBOUR: 'it returns false'. Refute it at one input. -/
def canonAgainWrong : ChangeSpec := { name := "canonAgain", fn := fun _ => fun
  | [d1, d2] => { results := [.lit (.bool false)], args := [d1, d2] }
  | _ => none }
def CanonAgainWrongFalsely : Prop := canonAgainRow.holds Tryz.pinned (OpenSpec.ofChange canonAgainWrong)

/- THE SECOND FORM. 'bulk': how many values and letters a reading holds, each counted each time it is reached (what is shared counts as often as it is met; a slice's spare places count too). A statement '..UptoSaid' is the law's where the arguments, and the package variables that the reading takes, are together of bulk at most 1048576: NARROWER than '..Said'. Prove '..Said' where nothing that the law and all that it calls make is longer than what came in: it says more and counts as full. Else prove '..UptoSaid'. A law counts once. -/
mutual
def uptoBulk {H : Type} : DataW H → Nat
  | .lit (.string bytes) => bytes.length + 1
  | .lit _ => 1
  | .nil => 1
  | .ptr d => uptoBulk d + 1
  | .slice elems spare => uptoBulkAll elems + uptoBulkAll spare + 1
  | .agg parts => uptoBulkAll parts + 1
  | .iface _ d => uptoBulk d + 1
  | .map entries => uptoBulkEntries entries + 1
  | .held _ => 1
def uptoBulkAll {H : Type} : List (DataW H) → Nat
  | [] => 0
  | d :: r => uptoBulk d + uptoBulkAll r
def uptoBulkEntries {H : Type} : List (Lit × DataW H) → Nat
  | [] => 0
  | x :: r => uptoBulkEntry x + uptoBulkEntries r
def uptoBulkEntry {H : Type} : Lit × DataW H → Nat
  | (.string bytes, d) => bytes.length + uptoBulk d + 1
  | (_, d) => uptoBulk d + 1
 end
def uptoSmall : (H : Type) → List (DataW H) → Bool := fun _ ds => decide (uptoBulkAll ds ≤ 1048576)
def OpenSpec.upto (s : _root_.Go.ChangeSpec) : _root_.Go.OpenSpec := { _root_.Go.OpenSpec.ofChange s with cond := some uptoSmall }

/-- 'strakelaw07.EditReplaces', WHERE WHAT IT READS IS OF BULK AT MOST 1048576: true; the input reads as it did. -/
def editReplacesUptoRow : OpenClaim := { program := "ytikogmpibkefdaagreat", sum := "fb8bfe9b8efed09e730e7f0af11339fcc82ef50c461e46b5a1d5c88ec9be5191", func := "strake/strakelaw07.EditReplaces", spec := "editReplaces", unfollowed := true, recurses := true, apart := false, narrowed := true }
def EditReplacesUptoSaid : Prop := editReplacesUptoRow.holds Tryz.pinned (OpenSpec.upto editReplacesSpec)

/-- 'strakelaw07.EditRenames', WHERE WHAT IT READS IS OF BULK AT MOST 1048576: true; the input reads as it did. -/
def editRenamesUptoRow : OpenClaim := { program := "ytikogmpibkefdaagreat", sum := "fb8bfe9b8efed09e730e7f0af11339fcc82ef50c461e46b5a1d5c88ec9be5191", func := "strake/strakelaw07.EditRenames", spec := "editRenames", unfollowed := true, recurses := true, apart := false, narrowed := true }
def EditRenamesUptoSaid : Prop := editRenamesUptoRow.holds Tryz.pinned (OpenSpec.upto editRenamesSpec)

/-- 'strakelaw07.EditSame', WHERE WHAT IT READS IS OF BULK AT MOST 1048576: true; the input reads as it did. -/
def editSameUptoRow : OpenClaim := { program := "ytikogmpibkefdaagreat", sum := "fb8bfe9b8efed09e730e7f0af11339fcc82ef50c461e46b5a1d5c88ec9be5191", func := "strake/strakelaw07.EditSame", spec := "editSame", unfollowed := true, recurses := true, apart := false, narrowed := true }
def EditSameUptoSaid : Prop := editSameUptoRow.holds Tryz.pinned (OpenSpec.upto editSameSpec)

/-- 'strakelaw07.EditBack', WHERE WHAT IT READS IS OF BULK AT MOST 1048576: true; the input reads as it did. -/
def editBackUptoRow : OpenClaim := { program := "ytikogmpibkefdaagreat", sum := "fb8bfe9b8efed09e730e7f0af11339fcc82ef50c461e46b5a1d5c88ec9be5191", func := "strake/strakelaw07.EditBack", spec := "editBack", unfollowed := true, recurses := true, apart := false, narrowed := true }
def EditBackUptoSaid : Prop := editBackUptoRow.holds Tryz.pinned (OpenSpec.upto editBackSpec)

/-- 'strakelaw07.EditUnseen', WHERE WHAT IT READS IS OF BULK AT MOST 1048576: true; the input reads as it did. -/
def editUnseenUptoRow : OpenClaim := { program := "ytikogmpibkefdaagreat", sum := "fb8bfe9b8efed09e730e7f0af11339fcc82ef50c461e46b5a1d5c88ec9be5191", func := "strake/strakelaw07.EditUnseen", spec := "editUnseen", unfollowed := true, recurses := true, apart := false, narrowed := true }
def EditUnseenUptoSaid : Prop := editUnseenUptoRow.holds Tryz.pinned (OpenSpec.upto editUnseenSpec)

/-- 'strakelaw10.CanonChecks', WHERE WHAT IT READS IS OF BULK AT MOST 1048576: true; the input reads as it did. -/
def canonChecksUptoRow : OpenClaim := { program := "ytikogmpibkefdaagreat", sum := "fb8bfe9b8efed09e730e7f0af11339fcc82ef50c461e46b5a1d5c88ec9be5191", func := "strake/strakelaw10.CanonChecks", spec := "canonChecks", unfollowed := true, recurses := true, apart := false, narrowed := true }
def CanonChecksUptoSaid : Prop := canonChecksUptoRow.holds Tryz.pinned (OpenSpec.upto canonChecksSpec)

/-- 'strakelaw10.CanonMakes', WHERE WHAT IT READS IS OF BULK AT MOST 1048576: true; the input reads as it did. -/
def canonMakesUptoRow : OpenClaim := { program := "ytikogmpibkefdaagreat", sum := "fb8bfe9b8efed09e730e7f0af11339fcc82ef50c461e46b5a1d5c88ec9be5191", func := "strake/strakelaw10.CanonMakes", spec := "canonMakes", unfollowed := true, recurses := true, apart := false, narrowed := true }
def CanonMakesUptoSaid : Prop := canonMakesUptoRow.holds Tryz.pinned (OpenSpec.upto canonMakesSpec)

/-- 'strakelaw10.CanonRuns', WHERE WHAT IT READS IS OF BULK AT MOST 1048576: true; the input reads as it did. -/
def canonRunsUptoRow : OpenClaim := { program := "ytikogmpibkefdaagreat", sum := "fb8bfe9b8efed09e730e7f0af11339fcc82ef50c461e46b5a1d5c88ec9be5191", func := "strake/strakelaw10.CanonRuns", spec := "canonRuns", unfollowed := true, recurses := true, apart := false, narrowed := true }
def CanonRunsUptoSaid : Prop := canonRunsUptoRow.holds Tryz.pinned (OpenSpec.upto canonRunsSpec)

/-- 'strakelaw10.CanonAgain', WHERE WHAT IT READS IS OF BULK AT MOST 1048576: true; the input reads as it did. -/
def canonAgainUptoRow : OpenClaim := { program := "ytikogmpibkefdaagreat", sum := "fb8bfe9b8efed09e730e7f0af11339fcc82ef50c461e46b5a1d5c88ec9be5191", func := "strake/strakelaw10.CanonAgain", spec := "canonAgain", unfollowed := true, recurses := true, apart := false, narrowed := true }
def CanonAgainUptoSaid : Prop := canonAgainUptoRow.holds Tryz.pinned (OpenSpec.upto canonAgainSpec)

end Rows
end Go.Proofs.YtikogmpibkefdaaGreat
