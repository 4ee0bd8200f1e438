/-
  No cell of these rows narrows 'for every input' (looked for: loops, veiled, ifaces, maps, wideKeys, modest, calm, conditions, laid).
  DERIVED. THE GIVEN ROWS OF THIS SEAT. 7 by the template 'for every input the law returns true; each argument reads behind the call as it read before'; 0 by the template 'total and deterministic' (their statements: YtglbepdjahddmaaGreatTotals.lean).
  GIVEN WITH THE SEED: the statements are not yours to turn. If you find one false, say at which input.
  Laid BY PROGRAM, IN A SANDBOX (cutbox-rows.mjs): the forced cells as the released guide's own fill.sh prints them over the translation 7260141cde374947… (all of the seat's roots in one cut). By AI agents, Wed Nov 11 2026. No macro, syntax, notation, axiom, sorry.
-/
import Derived.Test.YtglbepdjahddmaaGreatChecked
import GoSem.Claim
import GoSem.ClaimJoined
import GoSem.ClaimMapViews
import Derived.JoinedTies
import Derived.KernelRfl
namespace Go.Proofs.YtglbepdjahddmaaGreat
/- THE CELL 'sum', in the pinned program and in every row, IS THE sha256 OF THE DUMP (.gsa) THAT YtglbepdjahddmaaGreatProg.lean LOADS. Nothing in Lean hashes anything: it is a label: what it is worth is what the hold of that sum in a sandbox is worth. -/
noncomputable def Tryz.pinned : Pinned := { name := "ytglbepdjahddmaagreat", sum := "7260141cde374947f99c74e06ff123a75af7c880dc7f10ad7be13c9200010d2d", checked := Tryz.checked }
namespace Rows
def none {H : Type} : Left H := { results := [], args := [] }

/-- 'strakelaw09.LoopsDepths': WHATEVER THE INPUT: true; the input reads as it did. -/
def loopsDepthsSpec : ChangeSpec := { name := "loopsDepths", fn := fun _ => fun
  | [d] => { results := [.lit (.bool true)], args := [d] }
  | _ => none }
def loopsDepthsRow : OpenClaim := { program := "ytglbepdjahddmaagreat", sum := "7260141cde374947f99c74e06ff123a75af7c880dc7f10ad7be13c9200010d2d", func := "strake/strakelaw09.LoopsDepths", spec := "loopsDepths", unfollowed := true, recurses := true, apart := false }
def LoopsDepthsSaid : Prop := loopsDepthsRow.holds Tryz.pinned (OpenSpec.ofChange loopsDepthsSpec)

/-- ITS FALSE NEIGHBOUR: 'it returns false'. Refute it at one input. -/
def loopsDepthsWrong : ChangeSpec := { name := "loopsDepths", fn := fun _ => fun
  | [d] => { results := [.lit (.bool false)], args := [d] }
  | _ => none }
def LoopsDepthsWrongFalsely : Prop := loopsDepthsRow.holds Tryz.pinned (OpenSpec.ofChange loopsDepthsWrong)

/-- 'strakelaw09.LoopsEnds': WHATEVER THE INPUT: true; the input reads as it did. -/
def loopsEndsSpec : ChangeSpec := { name := "loopsEnds", fn := fun _ => fun
  | [d1, d2] => { results := [.lit (.bool true)], args := [d1, d2] }
  | _ => none }
def loopsEndsRow : OpenClaim := { program := "ytglbepdjahddmaagreat", sum := "7260141cde374947f99c74e06ff123a75af7c880dc7f10ad7be13c9200010d2d", func := "strake/strakelaw09.LoopsEnds", spec := "loopsEnds", unfollowed := true, recurses := true, apart := false }
def LoopsEndsSaid : Prop := loopsEndsRow.holds Tryz.pinned (OpenSpec.ofChange loopsEndsSpec)

/-- ITS FALSE NEIGHBOUR: 'it returns false'. Refute it at one input. -/
def loopsEndsWrong : ChangeSpec := { name := "loopsEnds", fn := fun _ => fun
  | [d1, d2] => { results := [.lit (.bool false)], args := [d1, d2] }
  | _ => none }
def LoopsEndsWrongFalsely : Prop := loopsEndsRow.holds Tryz.pinned (OpenSpec.ofChange loopsEndsWrong)

/-- 'strakelaw06.InterpCalc': WHATEVER THE INPUT: true; the input reads as it did. -/
def interpCalcSpec : ChangeSpec := { name := "interpCalc", fn := fun _ => fun
  | [d1, d2] => { results := [.lit (.bool true)], args := [d1, d2] }
  | _ => none }
def interpCalcRow : OpenClaim := { program := "ytglbepdjahddmaagreat", sum := "7260141cde374947f99c74e06ff123a75af7c880dc7f10ad7be13c9200010d2d", func := "strake/strakelaw06.InterpCalc", spec := "interpCalc", unfollowed := true, recurses := true, apart := false }
def InterpCalcSaid : Prop := interpCalcRow.holds Tryz.pinned (OpenSpec.ofChange interpCalcSpec)

/-- ITS FALSE NEIGHBOUR: 'it returns false'. Refute it at one input. -/
def interpCalcWrong : ChangeSpec := { name := "interpCalc", fn := fun _ => fun
  | [d1, d2] => { results := [.lit (.bool false)], args := [d1, d2] }
  | _ => none }
def InterpCalcWrongFalsely : Prop := interpCalcRow.holds Tryz.pinned (OpenSpec.ofChange interpCalcWrong)

/-- 'strakelaw06.InterpFuel': WHATEVER THE INPUT: true; the input reads as it did. -/
def interpFuelSpec : ChangeSpec := { name := "interpFuel", fn := fun _ => fun
  | [d1, d2, d3, d4] => { results := [.lit (.bool true)], args := [d1, d2, d3, d4] }
  | _ => none }
def interpFuelRow : OpenClaim := { program := "ytglbepdjahddmaagreat", sum := "7260141cde374947f99c74e06ff123a75af7c880dc7f10ad7be13c9200010d2d", func := "strake/strakelaw06.InterpFuel", spec := "interpFuel", unfollowed := true, recurses := true, apart := false }
def InterpFuelSaid : Prop := interpFuelRow.holds Tryz.pinned (OpenSpec.ofChange interpFuelSpec)

/-- ITS FALSE NEIGHBOUR: 'it returns false'. Refute it at one input. -/
def interpFuelWrong : ChangeSpec := { name := "interpFuel", fn := fun _ => fun
  | [d1, d2, d3, d4] => { results := [.lit (.bool false)], args := [d1, d2, d3, d4] }
  | _ => none }
def InterpFuelWrongFalsely : Prop := interpFuelRow.holds Tryz.pinned (OpenSpec.ofChange interpFuelWrong)

/-- 'strakelaw06.InterpVisits': WHATEVER THE INPUT: true; the input reads as it did. -/
def interpVisitsSpec : ChangeSpec := { name := "interpVisits", fn := fun _ => fun
  | [d1, d2, d3] => { results := [.lit (.bool true)], args := [d1, d2, d3] }
  | _ => none }
def interpVisitsRow : OpenClaim := { program := "ytglbepdjahddmaagreat", sum := "7260141cde374947f99c74e06ff123a75af7c880dc7f10ad7be13c9200010d2d", func := "strake/strakelaw06.InterpVisits", spec := "interpVisits", unfollowed := true, recurses := true, apart := false }
def InterpVisitsSaid : Prop := interpVisitsRow.holds Tryz.pinned (OpenSpec.ofChange interpVisitsSpec)

/-- ITS FALSE NEIGHBOUR: 'it returns false'. Refute it at one input. -/
def interpVisitsWrong : ChangeSpec := { name := "interpVisits", fn := fun _ => fun
  | [d1, d2, d3] => { results := [.lit (.bool false)], args := [d1, d2, d3] }
  | _ => none }
def InterpVisitsWrongFalsely : Prop := interpVisitsRow.holds Tryz.pinned (OpenSpec.ofChange interpVisitsWrong)

/-- 'strakelaw06.InterpSplits': WHATEVER THE INPUT: true; the input reads as it did. -/
def interpSplitsSpec : ChangeSpec := { name := "interpSplits", fn := fun _ => fun
  | [d1, d2, d3, d4] => { results := [.lit (.bool true)], args := [d1, d2, d3, d4] }
  | _ => none }
def interpSplitsRow : OpenClaim := { program := "ytglbepdjahddmaagreat", sum := "7260141cde374947f99c74e06ff123a75af7c880dc7f10ad7be13c9200010d2d", func := "strake/strakelaw06.InterpSplits", spec := "interpSplits", unfollowed := true, recurses := true, apart := false }
def InterpSplitsSaid : Prop := interpSplitsRow.holds Tryz.pinned (OpenSpec.ofChange interpSplitsSpec)

/-- ITS FALSE NEIGHBOUR: 'it returns false'. Refute it at one input. -/
def interpSplitsWrong : ChangeSpec := { name := "interpSplits", fn := fun _ => fun
  | [d1, d2, d3, d4] => { results := [.lit (.bool false)], args := [d1, d2, d3, d4] }
  | _ => none }
def InterpSplitsWrongFalsely : Prop := interpSplitsRow.holds Tryz.pinned (OpenSpec.ofChange interpSplitsWrong)

/-- 'strakelaw06.InterpEnds': WHATEVER THE INPUT: true; the input reads as it did. -/
def interpEndsSpec : ChangeSpec := { name := "interpEnds", fn := fun _ => fun
  | [d1, d2, d3] => { results := [.lit (.bool true)], args := [d1, d2, d3] }
  | _ => none }
def interpEndsRow : OpenClaim := { program := "ytglbepdjahddmaagreat", sum := "7260141cde374947f99c74e06ff123a75af7c880dc7f10ad7be13c9200010d2d", func := "strake/strakelaw06.InterpEnds", spec := "interpEnds", unfollowed := true, recurses := true, apart := false }
def InterpEndsSaid : Prop := interpEndsRow.holds Tryz.pinned (OpenSpec.ofChange interpEndsSpec)

/-- ITS FALSE NEIGHBOUR: 'it returns false'. Refute it at one input. -/
def interpEndsWrong : ChangeSpec := { name := "interpEnds", fn := fun _ => fun
  | [d1, d2, d3] => { results := [.lit (.bool false)], args := [d1, d2, d3] }
  | _ => none }
def InterpEndsWrongFalsely : Prop := interpEndsRow.holds Tryz.pinned (OpenSpec.ofChange interpEndsWrong)

/- THE SECOND FORM. 'bulk': how many values and letters a reading holds, each counted each time it is reached (what is shared counts as often as it is met; a slice's spare places count too). A statement '..UptoSaid' is the law's where the arguments, and the package variables that the reading takes, are together of bulk at most 1048576: NARROWER than '..Said'. Prove '..Said' where nothing that the law and all that it calls make is longer than what came in: it says more and counts as full. Else prove '..UptoSaid'. A law counts once. -/
mutual
def uptoBulk {H : Type} : DataW H → Nat
  | .lit (.string bytes) => bytes.length + 1
  | .lit _ => 1
  | .nil => 1
  | .ptr d => uptoBulk d + 1
  | .slice elems spare => uptoBulkAll elems + uptoBulkAll spare + 1
  | .agg parts => uptoBulkAll parts + 1
  | .iface _ d => uptoBulk d + 1
  | .map entries => uptoBulkEntries entries + 1
  | .held _ => 1
def uptoBulkAll {H : Type} : List (DataW H) → Nat
  | [] => 0
  | d :: r => uptoBulk d + uptoBulkAll r
def uptoBulkEntries {H : Type} : List (Lit × DataW H) → Nat
  | [] => 0
  | x :: r => uptoBulkEntry x + uptoBulkEntries r
def uptoBulkEntry {H : Type} : Lit × DataW H → Nat
  | (.string bytes, d) => bytes.length + uptoBulk d + 1
  | (_, d) => uptoBulk d + 1
 end
def uptoSmall : (H : Type) → List (DataW H) → Bool := fun _ ds => decide (uptoBulkAll ds ≤ 1048576)
def OpenSpec.upto (s : _root_.Go.ChangeSpec) : _root_.Go.OpenSpec := { _root_.Go.OpenSpec.ofChange s with cond := some uptoSmall }

/-- 'strakelaw09.LoopsDepths', WHERE WHAT IT READS IS OF BULK AT MOST 1048576: true; the input reads as it did. -/
def loopsDepthsUptoRow : OpenClaim := { program := "ytglbepdjahddmaagreat", sum := "7260141cde374947f99c74e06ff123a75af7c880dc7f10ad7be13c9200010d2d", func := "strake/strakelaw09.LoopsDepths", spec := "loopsDepths", unfollowed := true, recurses := true, apart := false, narrowed := true }
def LoopsDepthsUptoSaid : Prop := loopsDepthsUptoRow.holds Tryz.pinned (OpenSpec.upto loopsDepthsSpec)

/-- 'strakelaw09.LoopsEnds', WHERE WHAT IT READS IS OF BULK AT MOST 1048576: true; the input reads as it did. -/
def loopsEndsUptoRow : OpenClaim := { program := "ytglbepdjahddmaagreat", sum := "7260141cde374947f99c74e06ff123a75af7c880dc7f10ad7be13c9200010d2d", func := "strake/strakelaw09.LoopsEnds", spec := "loopsEnds", unfollowed := true, recurses := true, apart := false, narrowed := true }
def LoopsEndsUptoSaid : Prop := loopsEndsUptoRow.holds Tryz.pinned (OpenSpec.upto loopsEndsSpec)

/-- 'strakelaw06.InterpCalc', WHERE WHAT IT READS IS OF BULK AT MOST 1048576: true; the input reads as it did. -/
def interpCalcUptoRow : OpenClaim := { program := "ytglbepdjahddmaagreat", sum := "7260141cde374947f99c74e06ff123a75af7c880dc7f10ad7be13c9200010d2d", func := "strake/strakelaw06.InterpCalc", spec := "interpCalc", unfollowed := true, recurses := true, apart := false, narrowed := true }
def InterpCalcUptoSaid : Prop := interpCalcUptoRow.holds Tryz.pinned (OpenSpec.upto interpCalcSpec)

/-- 'strakelaw06.InterpFuel', WHERE WHAT IT READS IS OF BULK AT MOST 1048576: true; the input reads as it did. -/
def interpFuelUptoRow : OpenClaim := { program := "ytglbepdjahddmaagreat", sum := "7260141cde374947f99c74e06ff123a75af7c880dc7f10ad7be13c9200010d2d", func := "strake/strakelaw06.InterpFuel", spec := "interpFuel", unfollowed := true, recurses := true, apart := false, narrowed := true }
def InterpFuelUptoSaid : Prop := interpFuelUptoRow.holds Tryz.pinned (OpenSpec.upto interpFuelSpec)

/-- 'strakelaw06.InterpVisits', WHERE WHAT IT READS IS OF BULK AT MOST 1048576: true; the input reads as it did. -/
def interpVisitsUptoRow : OpenClaim := { program := "ytglbepdjahddmaagreat", sum := "7260141cde374947f99c74e06ff123a75af7c880dc7f10ad7be13c9200010d2d", func := "strake/strakelaw06.InterpVisits", spec := "interpVisits", unfollowed := true, recurses := true, apart := false, narrowed := true }
def InterpVisitsUptoSaid : Prop := interpVisitsUptoRow.holds Tryz.pinned (OpenSpec.upto interpVisitsSpec)

/-- 'strakelaw06.InterpSplits', WHERE WHAT IT READS IS OF BULK AT MOST 1048576: true; the input reads as it did. -/
def interpSplitsUptoRow : OpenClaim := { program := "ytglbepdjahddmaagreat", sum := "7260141cde374947f99c74e06ff123a75af7c880dc7f10ad7be13c9200010d2d", func := "strake/strakelaw06.InterpSplits", spec := "interpSplits", unfollowed := true, recurses := true, apart := false, narrowed := true }
def InterpSplitsUptoSaid : Prop := interpSplitsUptoRow.holds Tryz.pinned (OpenSpec.upto interpSplitsSpec)

/-- 'strakelaw06.InterpEnds', WHERE WHAT IT READS IS OF BULK AT MOST 1048576: true; the input reads as it did. -/
def interpEndsUptoRow : OpenClaim := { program := "ytglbepdjahddmaagreat", sum := "7260141cde374947f99c74e06ff123a75af7c880dc7f10ad7be13c9200010d2d", func := "strake/strakelaw06.InterpEnds", spec := "interpEnds", unfollowed := true, recurses := true, apart := false, narrowed := true }
def InterpEndsUptoSaid : Prop := interpEndsUptoRow.holds Tryz.pinned (OpenSpec.upto interpEndsSpec)

end Rows
end Go.Proofs.YtglbepdjahddmaaGreat
