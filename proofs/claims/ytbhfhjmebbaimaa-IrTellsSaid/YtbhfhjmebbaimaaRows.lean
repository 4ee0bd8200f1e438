/-
  No cell of these rows narrows 'for every input' (looked for: loops, veiled, ifaces, maps, wideKeys, modest, calm, conditions, laid).
  DERIVED. THE GIVEN ROWS OF THIS SEAT. 4 by the template 'for every input the law returns true; each argument reads behind the call as it read before'; 0 by the template 'total and deterministic' (their statements: YtbhfhjmebbaimaaTotals.lean).
  GIVEN WITH THE SEED: the statements are not yours to turn. If you find one false, say at which input.
  Laid BY PROGRAM, IN A SANDBOX (cutbox-rows.mjs): the forced cells as the released guide's own fill.sh prints them over the translation 574cfa9ba6d75369… (all of the seat's roots in one cut). By AI agents, Wed Nov 11 2026. No macro, syntax, notation, axiom, sorry.
-/
import Derived.Test.YtbhfhjmebbaimaaChecked
import GoSem.Claim
import GoSem.ClaimJoined
import GoSem.ClaimMapViews
import Derived.JoinedTies
import Derived.KernelRfl
namespace Go.Proofs.Ytbhfhjmebbaimaa
/- THE CELL 'sum', in the pinned program and in every row, IS THE sha256 OF THE DUMP (.gsa) THAT YtbhfhjmebbaimaaProg.lean LOADS. Nothing in Lean hashes anything: it is a label: what it is worth is what the hold of that sum in a sandbox is worth. -/
noncomputable def Try.pinned : Pinned := { name := "ytbhfhjmebbaimaa", sum := "574cfa9ba6d753699c8c67a7d2bc67c0c054517c733057a203ea9ebadeec97ea", checked := Try.checked }
namespace Rows
def none {H : Type} : Left H := { results := [], args := [] }

/-- 'strakelaw01.IrTells': WHATEVER THE INPUT: true; the input reads as it did. -/
def irTellsSpec : ChangeSpec := { name := "irTells", fn := fun _ => fun
  | [d1, d2] => { results := [.lit (.bool true)], args := [d1, d2] }
  | _ => none }
def irTellsRow : OpenClaim := { program := "ytbhfhjmebbaimaa", sum := "574cfa9ba6d753699c8c67a7d2bc67c0c054517c733057a203ea9ebadeec97ea", func := "strake/strakelaw01.IrTells", spec := "irTells", unfollowed := true, recurses := true, apart := false }
def IrTellsSaid : Prop := irTellsRow.holds Try.pinned (OpenSpec.ofChange irTellsSpec)

/-- ITS FALSE NEIGHBOUR: 'it returns false'. Refute it at one input. -/
def irTellsWrong : ChangeSpec := { name := "irTells", fn := fun _ => fun
  | [d1, d2] => { results := [.lit (.bool false)], args := [d1, d2] }
  | _ => none }
def IrTellsWrongFalsely : Prop := irTellsRow.holds Try.pinned (OpenSpec.ofChange irTellsWrong)

/-- 'strakelaw01.IrArgs': WHATEVER THE INPUT: true; the input reads as it did. -/
def irArgsSpec : ChangeSpec := { name := "irArgs", fn := fun _ => fun
  | [d] => { results := [.lit (.bool true)], args := [d] }
  | _ => none }
def irArgsRow : OpenClaim := { program := "ytbhfhjmebbaimaa", sum := "574cfa9ba6d753699c8c67a7d2bc67c0c054517c733057a203ea9ebadeec97ea", func := "strake/strakelaw01.IrArgs", spec := "irArgs", unfollowed := true, recurses := true, apart := false }
def IrArgsSaid : Prop := irArgsRow.holds Try.pinned (OpenSpec.ofChange irArgsSpec)

/-- ITS FALSE NEIGHBOUR: 'it returns false'. Refute it at one input. -/
def irArgsWrong : ChangeSpec := { name := "irArgs", fn := fun _ => fun
  | [d] => { results := [.lit (.bool false)], args := [d] }
  | _ => none }
def IrArgsWrongFalsely : Prop := irArgsRow.holds Try.pinned (OpenSpec.ofChange irArgsWrong)

/-- 'strakelaw01.IrUsed': WHATEVER THE INPUT: true; the input reads as it did. -/
def irUsedSpec : ChangeSpec := { name := "irUsed", fn := fun _ => fun
  | [d] => { results := [.lit (.bool true)], args := [d] }
  | _ => none }
def irUsedRow : OpenClaim := { program := "ytbhfhjmebbaimaa", sum := "574cfa9ba6d753699c8c67a7d2bc67c0c054517c733057a203ea9ebadeec97ea", func := "strake/strakelaw01.IrUsed", spec := "irUsed", unfollowed := true, recurses := true, apart := false }
def IrUsedSaid : Prop := irUsedRow.holds Try.pinned (OpenSpec.ofChange irUsedSpec)

/-- ITS FALSE NEIGHBOUR: 'it returns false'. Refute it at one input. -/
def irUsedWrong : ChangeSpec := { name := "irUsed", fn := fun _ => fun
  | [d] => { results := [.lit (.bool false)], args := [d] }
  | _ => none }
def IrUsedWrongFalsely : Prop := irUsedRow.holds Try.pinned (OpenSpec.ofChange irUsedWrong)

/-- 'strakelaw01.IrMore': WHATEVER THE INPUT: true; the input reads as it did. -/
def irMoreSpec : ChangeSpec := { name := "irMore", fn := fun _ => fun
  | [d1, d2] => { results := [.lit (.bool true)], args := [d1, d2] }
  | _ => none }
def irMoreRow : OpenClaim := { program := "ytbhfhjmebbaimaa", sum := "574cfa9ba6d753699c8c67a7d2bc67c0c054517c733057a203ea9ebadeec97ea", func := "strake/strakelaw01.IrMore", spec := "irMore", unfollowed := true, recurses := true, apart := false }
def IrMoreSaid : Prop := irMoreRow.holds Try.pinned (OpenSpec.ofChange irMoreSpec)

/-- ITS FALSE NEIGHBOUR: 'it returns false'. Refute it at one input. -/
def irMoreWrong : ChangeSpec := { name := "irMore", fn := fun _ => fun
  | [d1, d2] => { results := [.lit (.bool false)], args := [d1, d2] }
  | _ => none }
def IrMoreWrongFalsely : Prop := irMoreRow.holds Try.pinned (OpenSpec.ofChange irMoreWrong)

/- THE SECOND FORM. 'bulk': how many values and letters a reading holds, each counted each time it is reached (what is shared counts as often as it is met; a slice's spare places count too). A statement '..UptoSaid' is the law's where the arguments, and the package variables that the reading takes, are together of bulk at most 1048576: NARROWER than '..Said'. Prove '..Said' where nothing that the law and all that it calls make is longer than what came in: it says more and counts as full. Else prove '..UptoSaid'. A law counts once. -/
mutual
def uptoBulk {H : Type} : DataW H → Nat
  | .lit (.string bytes) => bytes.length + 1
  | .lit _ => 1
  | .nil => 1
  | .ptr d => uptoBulk d + 1
  | .slice elems spare => uptoBulkAll elems + uptoBulkAll spare + 1
  | .agg parts => uptoBulkAll parts + 1
  | .iface _ d => uptoBulk d + 1
  | .map entries => uptoBulkEntries entries + 1
  | .held _ => 1
def uptoBulkAll {H : Type} : List (DataW H) → Nat
  | [] => 0
  | d :: r => uptoBulk d + uptoBulkAll r
def uptoBulkEntries {H : Type} : List (Lit × DataW H) → Nat
  | [] => 0
  | x :: r => uptoBulkEntry x + uptoBulkEntries r
def uptoBulkEntry {H : Type} : Lit × DataW H → Nat
  | (.string bytes, d) => bytes.length + uptoBulk d + 1
  | (_, d) => uptoBulk d + 1
 end
def uptoSmall : (H : Type) → List (DataW H) → Bool := fun _ ds => decide (uptoBulkAll ds ≤ 1048576)
def OpenSpec.upto (s : _root_.Go.ChangeSpec) : _root_.Go.OpenSpec := { _root_.Go.OpenSpec.ofChange s with cond := some uptoSmall }

/-- 'strakelaw01.IrTells', WHERE WHAT IT READS IS OF BULK AT MOST 1048576: true; the input reads as it did. -/
def irTellsUptoRow : OpenClaim := { program := "ytbhfhjmebbaimaa", sum := "574cfa9ba6d753699c8c67a7d2bc67c0c054517c733057a203ea9ebadeec97ea", func := "strake/strakelaw01.IrTells", spec := "irTells", unfollowed := true, recurses := true, apart := false, narrowed := true }
def IrTellsUptoSaid : Prop := irTellsUptoRow.holds Try.pinned (OpenSpec.upto irTellsSpec)

/-- 'strakelaw01.IrArgs', WHERE WHAT IT READS IS OF BULK AT MOST 1048576: true; the input reads as it did. -/
def irArgsUptoRow : OpenClaim := { program := "ytbhfhjmebbaimaa", sum := "574cfa9ba6d753699c8c67a7d2bc67c0c054517c733057a203ea9ebadeec97ea", func := "strake/strakelaw01.IrArgs", spec := "irArgs", unfollowed := true, recurses := true, apart := false, narrowed := true }
def IrArgsUptoSaid : Prop := irArgsUptoRow.holds Try.pinned (OpenSpec.upto irArgsSpec)

/-- 'strakelaw01.IrUsed', WHERE WHAT IT READS IS OF BULK AT MOST 1048576: true; the input reads as it did. -/
def irUsedUptoRow : OpenClaim := { program := "ytbhfhjmebbaimaa", sum := "574cfa9ba6d753699c8c67a7d2bc67c0c054517c733057a203ea9ebadeec97ea", func := "strake/strakelaw01.IrUsed", spec := "irUsed", unfollowed := true, recurses := true, apart := false, narrowed := true }
def IrUsedUptoSaid : Prop := irUsedUptoRow.holds Try.pinned (OpenSpec.upto irUsedSpec)

/-- 'strakelaw01.IrMore', WHERE WHAT IT READS IS OF BULK AT MOST 1048576: true; the input reads as it did. -/
def irMoreUptoRow : OpenClaim := { program := "ytbhfhjmebbaimaa", sum := "574cfa9ba6d753699c8c67a7d2bc67c0c054517c733057a203ea9ebadeec97ea", func := "strake/strakelaw01.IrMore", spec := "irMore", unfollowed := true, recurses := true, apart := false, narrowed := true }
def IrMoreUptoSaid : Prop := irMoreUptoRow.holds Try.pinned (OpenSpec.upto irMoreSpec)

end Rows
end Go.Proofs.Ytbhfhjmebbaimaa
