/-
  No cell of these rows narrows 'for every input' (looked for: loops, veiled, ifaces, maps, wideKeys, modest, calm, conditions, laid).
  DERIVED. THE GIVEN ROWS OF THIS SEAT. 6 by the template 'for every input the law returns true; each argument reads behind the call as it read before'; 0 by the template 'total and deterministic' (their statements: YtaehbgppfahdeaaGreatTotals.lean).
  GIVEN WITH THE SEED: the statements are not yours to turn. If you find one false, say at which input.
  Laid BY PROGRAM, IN A SANDBOX (cutbox-rows.mjs): the forced cells as the released guide's own fill.sh prints them over the translation 18345af30dcd1b32… (all of the seat's roots in one cut). By AI agents, Wed Nov 11 2026. No macro, syntax, notation, axiom, sorry.
-/
import Derived.Test.YtaehbgppfahdeaaGreatChecked
import GoSem.Claim
import GoSem.ClaimJoined
import GoSem.ClaimMapViews
import Derived.JoinedTies
import Derived.KernelRfl
namespace Go.Proofs.YtaehbgppfahdeaaGreat
/- THE CELL 'sum', in the pinned program and in every row, IS THE sha256 OF THE DUMP (.gsa) THAT YtaehbgppfahdeaaGreatProg.lean LOADS. Nothing in Lean hashes anything: it is a label: what it is worth is what the hold of that sum in a sandbox is worth. -/
noncomputable def Tryz.pinned : Pinned := { name := "ytaehbgppfahdeaagreat", sum := "18345af30dcd1b329f26f3960f1f3c5d0354f5590af3b7053e8b61a76ac071cf", checked := Tryz.checked }
namespace Rows
def none {H : Type} : Left H := { results := [], args := [] }

/-- 'strakelaw07.EditReplaces': WHATEVER THE INPUT: true; the input reads as it did. -/
def editReplacesSpec : ChangeSpec := { name := "editReplaces", fn := fun _ => fun
  | [d1, d2, d3] => { results := [.lit (.bool true)], args := [d1, d2, d3] }
  | _ => none }
def editReplacesRow : OpenClaim := { program := "ytaehbgppfahdeaagreat", sum := "18345af30dcd1b329f26f3960f1f3c5d0354f5590af3b7053e8b61a76ac071cf", func := "strake/strakelaw07.EditReplaces", spec := "editReplaces", unfollowed := true, recurses := true, apart := false }
def EditReplacesSaid : Prop := editReplacesRow.holds Tryz.pinned (OpenSpec.ofChange editReplacesSpec)

/-- ITS FALSE NEIGHBOUR: 'it returns false'. Refute it at one input. -/
def editReplacesWrong : ChangeSpec := { name := "editReplaces", fn := fun _ => fun
  | [d1, d2, d3] => { results := [.lit (.bool false)], args := [d1, d2, d3] }
  | _ => none }
def EditReplacesWrongFalsely : Prop := editReplacesRow.holds Tryz.pinned (OpenSpec.ofChange editReplacesWrong)

/-- 'strakelaw07.EditBack': WHATEVER THE INPUT: true; the input reads as it did. -/
def editBackSpec : ChangeSpec := { name := "editBack", fn := fun _ => fun
  | [d1, d2, d3] => { results := [.lit (.bool true)], args := [d1, d2, d3] }
  | _ => none }
def editBackRow : OpenClaim := { program := "ytaehbgppfahdeaagreat", sum := "18345af30dcd1b329f26f3960f1f3c5d0354f5590af3b7053e8b61a76ac071cf", func := "strake/strakelaw07.EditBack", spec := "editBack", unfollowed := true, recurses := true, apart := false }
def EditBackSaid : Prop := editBackRow.holds Tryz.pinned (OpenSpec.ofChange editBackSpec)

/-- ITS FALSE NEIGHBOUR: 'it returns false'. Refute it at one input. -/
def editBackWrong : ChangeSpec := { name := "editBack", fn := fun _ => fun
  | [d1, d2, d3] => { results := [.lit (.bool false)], args := [d1, d2, d3] }
  | _ => none }
def EditBackWrongFalsely : Prop := editBackRow.holds Tryz.pinned (OpenSpec.ofChange editBackWrong)

/-- 'strakelaw10.CanonChecks': WHATEVER THE INPUT: true; the input reads as it did. -/
def canonChecksSpec : ChangeSpec := { name := "canonChecks", fn := fun _ => fun
  | [d] => { results := [.lit (.bool true)], args := [d] }
  | _ => none }
def canonChecksRow : OpenClaim := { program := "ytaehbgppfahdeaagreat", sum := "18345af30dcd1b329f26f3960f1f3c5d0354f5590af3b7053e8b61a76ac071cf", func := "strake/strakelaw10.CanonChecks", spec := "canonChecks", unfollowed := true, recurses := true, apart := false }
def CanonChecksSaid : Prop := canonChecksRow.holds Tryz.pinned (OpenSpec.ofChange canonChecksSpec)

/-- ITS FALSE NEIGHBOUR: 'it returns false'. Refute it at one input. -/
def canonChecksWrong : ChangeSpec := { name := "canonChecks", fn := fun _ => fun
  | [d] => { results := [.lit (.bool false)], args := [d] }
  | _ => none }
def CanonChecksWrongFalsely : Prop := canonChecksRow.holds Tryz.pinned (OpenSpec.ofChange canonChecksWrong)

/-- 'strakelaw11.ClosedChecks': WHATEVER THE INPUT: true; the input reads as it did. -/
def closedChecksSpec : ChangeSpec := { name := "closedChecks", fn := fun _ => fun
  | [d] => { results := [.lit (.bool true)], args := [d] }
  | _ => none }
def closedChecksRow : OpenClaim := { program := "ytaehbgppfahdeaagreat", sum := "18345af30dcd1b329f26f3960f1f3c5d0354f5590af3b7053e8b61a76ac071cf", func := "strake/strakelaw11.ClosedChecks", spec := "closedChecks", unfollowed := true, recurses := true, apart := false }
def ClosedChecksSaid : Prop := closedChecksRow.holds Tryz.pinned (OpenSpec.ofChange closedChecksSpec)

/-- ITS FALSE NEIGHBOUR: 'it returns false'. Refute it at one input. -/
def closedChecksWrong : ChangeSpec := { name := "closedChecks", fn := fun _ => fun
  | [d] => { results := [.lit (.bool false)], args := [d] }
  | _ => none }
def ClosedChecksWrongFalsely : Prop := closedChecksRow.holds Tryz.pinned (OpenSpec.ofChange closedChecksWrong)

/-- 'strakelaw11.ClosedRuns': WHATEVER THE INPUT: true; the input reads as it did. -/
def closedRunsSpec : ChangeSpec := { name := "closedRuns", fn := fun _ => fun
  | [d1, d2, d3] => { results := [.lit (.bool true)], args := [d1, d2, d3] }
  | _ => none }
def closedRunsRow : OpenClaim := { program := "ytaehbgppfahdeaagreat", sum := "18345af30dcd1b329f26f3960f1f3c5d0354f5590af3b7053e8b61a76ac071cf", func := "strake/strakelaw11.ClosedRuns", spec := "closedRuns", unfollowed := true, recurses := true, apart := false }
def ClosedRunsSaid : Prop := closedRunsRow.holds Tryz.pinned (OpenSpec.ofChange closedRunsSpec)

/-- ITS FALSE NEIGHBOUR: 'it returns false'. Refute it at one input. -/
def closedRunsWrong : ChangeSpec := { name := "closedRuns", fn := fun _ => fun
  | [d1, d2, d3] => { results := [.lit (.bool false)], args := [d1, d2, d3] }
  | _ => none }
def ClosedRunsWrongFalsely : Prop := closedRunsRow.holds Tryz.pinned (OpenSpec.ofChange closedRunsWrong)

/-- 'strakelaw11.ClosedAgain': WHATEVER THE INPUT: true; the input reads as it did. -/
def closedAgainSpec : ChangeSpec := { name := "closedAgain", fn := fun _ => fun
  | [d] => { results := [.lit (.bool true)], args := [d] }
  | _ => none }
def closedAgainRow : OpenClaim := { program := "ytaehbgppfahdeaagreat", sum := "18345af30dcd1b329f26f3960f1f3c5d0354f5590af3b7053e8b61a76ac071cf", func := "strake/strakelaw11.ClosedAgain", spec := "closedAgain", unfollowed := true, recurses := true, apart := false }
def ClosedAgainSaid : Prop := closedAgainRow.holds Tryz.pinned (OpenSpec.ofChange closedAgainSpec)

/-- ITS FALSE NEIGHBOUR: 'it returns false'. Refute it at one input. -/
def closedAgainWrong : ChangeSpec := { name := "closedAgain", fn := fun _ => fun
  | [d] => { results := [.lit (.bool false)], args := [d] }
  | _ => none }
def ClosedAgainWrongFalsely : Prop := closedAgainRow.holds Tryz.pinned (OpenSpec.ofChange closedAgainWrong)

/- THE SECOND FORM. 'bulk': how many values and letters a reading holds, each counted each time it is reached (what is shared counts as often as it is met; a slice's spare places count too). A statement '..UptoSaid' is the law's where the arguments, and the package variables that the reading takes, are together of bulk at most 1048576: NARROWER than '..Said'. Prove '..Said' where nothing that the law and all that it calls make is longer than what came in: it says more and counts as full. Else prove '..UptoSaid'. A law counts once. -/
mutual
def uptoBulk {H : Type} : DataW H → Nat
  | .lit (.string bytes) => bytes.length + 1
  | .lit _ => 1
  | .nil => 1
  | .ptr d => uptoBulk d + 1
  | .slice elems spare => uptoBulkAll elems + uptoBulkAll spare + 1
  | .agg parts => uptoBulkAll parts + 1
  | .iface _ d => uptoBulk d + 1
  | .map entries => uptoBulkEntries entries + 1
  | .held _ => 1
def uptoBulkAll {H : Type} : List (DataW H) → Nat
  | [] => 0
  | d :: r => uptoBulk d + uptoBulkAll r
def uptoBulkEntries {H : Type} : List (Lit × DataW H) → Nat
  | [] => 0
  | x :: r => uptoBulkEntry x + uptoBulkEntries r
def uptoBulkEntry {H : Type} : Lit × DataW H → Nat
  | (.string bytes, d) => bytes.length + uptoBulk d + 1
  | (_, d) => uptoBulk d + 1
 end
def uptoSmall : (H : Type) → List (DataW H) → Bool := fun _ ds => decide (uptoBulkAll ds ≤ 1048576)
def OpenSpec.upto (s : _root_.Go.ChangeSpec) : _root_.Go.OpenSpec := { _root_.Go.OpenSpec.ofChange s with cond := some uptoSmall }

/-- 'strakelaw07.EditReplaces', WHERE WHAT IT READS IS OF BULK AT MOST 1048576: true; the input reads as it did. -/
def editReplacesUptoRow : OpenClaim := { program := "ytaehbgppfahdeaagreat", sum := "18345af30dcd1b329f26f3960f1f3c5d0354f5590af3b7053e8b61a76ac071cf", func := "strake/strakelaw07.EditReplaces", spec := "editReplaces", unfollowed := true, recurses := true, apart := false, narrowed := true }
def EditReplacesUptoSaid : Prop := editReplacesUptoRow.holds Tryz.pinned (OpenSpec.upto editReplacesSpec)

/-- 'strakelaw07.EditBack', WHERE WHAT IT READS IS OF BULK AT MOST 1048576: true; the input reads as it did. -/
def editBackUptoRow : OpenClaim := { program := "ytaehbgppfahdeaagreat", sum := "18345af30dcd1b329f26f3960f1f3c5d0354f5590af3b7053e8b61a76ac071cf", func := "strake/strakelaw07.EditBack", spec := "editBack", unfollowed := true, recurses := true, apart := false, narrowed := true }
def EditBackUptoSaid : Prop := editBackUptoRow.holds Tryz.pinned (OpenSpec.upto editBackSpec)

/-- 'strakelaw10.CanonChecks', WHERE WHAT IT READS IS OF BULK AT MOST 1048576: true; the input reads as it did. -/
def canonChecksUptoRow : OpenClaim := { program := "ytaehbgppfahdeaagreat", sum := "18345af30dcd1b329f26f3960f1f3c5d0354f5590af3b7053e8b61a76ac071cf", func := "strake/strakelaw10.CanonChecks", spec := "canonChecks", unfollowed := true, recurses := true, apart := false, narrowed := true }
def CanonChecksUptoSaid : Prop := canonChecksUptoRow.holds Tryz.pinned (OpenSpec.upto canonChecksSpec)

/-- 'strakelaw11.ClosedChecks', WHERE WHAT IT READS IS OF BULK AT MOST 1048576: true; the input reads as it did. -/
def closedChecksUptoRow : OpenClaim := { program := "ytaehbgppfahdeaagreat", sum := "18345af30dcd1b329f26f3960f1f3c5d0354f5590af3b7053e8b61a76ac071cf", func := "strake/strakelaw11.ClosedChecks", spec := "closedChecks", unfollowed := true, recurses := true, apart := false, narrowed := true }
def ClosedChecksUptoSaid : Prop := closedChecksUptoRow.holds Tryz.pinned (OpenSpec.upto closedChecksSpec)

/-- 'strakelaw11.ClosedRuns', WHERE WHAT IT READS IS OF BULK AT MOST 1048576: true; the input reads as it did. -/
def closedRunsUptoRow : OpenClaim := { program := "ytaehbgppfahdeaagreat", sum := "18345af30dcd1b329f26f3960f1f3c5d0354f5590af3b7053e8b61a76ac071cf", func := "strake/strakelaw11.ClosedRuns", spec := "closedRuns", unfollowed := true, recurses := true, apart := false, narrowed := true }
def ClosedRunsUptoSaid : Prop := closedRunsUptoRow.holds Tryz.pinned (OpenSpec.upto closedRunsSpec)

/-- 'strakelaw11.ClosedAgain', WHERE WHAT IT READS IS OF BULK AT MOST 1048576: true; the input reads as it did. -/
def closedAgainUptoRow : OpenClaim := { program := "ytaehbgppfahdeaagreat", sum := "18345af30dcd1b329f26f3960f1f3c5d0354f5590af3b7053e8b61a76ac071cf", func := "strake/strakelaw11.ClosedAgain", spec := "closedAgain", unfollowed := true, recurses := true, apart := false, narrowed := true }
def ClosedAgainUptoSaid : Prop := closedAgainUptoRow.holds Tryz.pinned (OpenSpec.upto closedAgainSpec)

end Rows
end Go.Proofs.YtaehbgppfahdeaaGreat
