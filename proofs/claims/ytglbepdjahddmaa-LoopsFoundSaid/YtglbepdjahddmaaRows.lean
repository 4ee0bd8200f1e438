/-
  No cell of these rows narrows 'for every input' (looked for: loops, veiled, ifaces, maps, wideKeys, modest, calm, conditions, laid).
  DERIVED. THE GIVEN ROWS OF THIS SEAT. 4 by the template 'for every input the law returns true; each argument reads behind the call as it read before'; 0 by the template 'total and deterministic' (their statements: YtglbepdjahddmaaTotals.lean).
  GIVEN WITH THE SEED: the statements are not yours to turn. If you find one false, say at which input.
  Laid BY PROGRAM, IN A SANDBOX (cutbox-rows.mjs): the forced cells as the released guide's own fill.sh prints them over the translation c9d3945c8aa6baaa… (all of the seat's roots in one cut). By AI agents, Wed Nov 11 2026. No macro, syntax, notation, axiom, sorry.
-/
import Derived.Test.YtglbepdjahddmaaChecked
import GoSem.Claim
import GoSem.ClaimJoined
import GoSem.ClaimMapViews
import Derived.JoinedTies
import Derived.KernelRfl
namespace Go.Proofs.Ytglbepdjahddmaa
/- THE CELL 'sum', in the pinned program and in every row, IS THE sha256 OF THE DUMP (.gsa) THAT YtglbepdjahddmaaProg.lean LOADS. Nothing in Lean hashes anything: it is a label: what it is worth is what the hold of that sum in a sandbox is worth. -/
noncomputable def Try.pinned : Pinned := { name := "ytglbepdjahddmaa", sum := "c9d3945c8aa6baaabed5dca517f4ae207d54c8dda29c29db9706205f52df579b", checked := Try.checked }
namespace Rows
def none {H : Type} : Left H := { results := [], args := [] }

/-- 'strakelaw09.LoopsFound': WHATEVER THE INPUT: true; the input reads as it did. -/
def loopsFoundSpec : ChangeSpec := { name := "loopsFound", fn := fun _ => fun
  | [d] => { results := [.lit (.bool true)], args := [d] }
  | _ => none }
def loopsFoundRow : OpenClaim := { program := "ytglbepdjahddmaa", sum := "c9d3945c8aa6baaabed5dca517f4ae207d54c8dda29c29db9706205f52df579b", func := "strake/strakelaw09.LoopsFound", spec := "loopsFound", unfollowed := true, recurses := true, apart := false }
def LoopsFoundSaid : Prop := loopsFoundRow.holds Try.pinned (OpenSpec.ofChange loopsFoundSpec)

/-- ITS FALSE NEIGHBOUR: 'it returns false'. Refute it at one input. -/
def loopsFoundWrong : ChangeSpec := { name := "loopsFound", fn := fun _ => fun
  | [d] => { results := [.lit (.bool false)], args := [d] }
  | _ => none }
def LoopsFoundWrongFalsely : Prop := loopsFoundRow.holds Try.pinned (OpenSpec.ofChange loopsFoundWrong)

/-- 'strakelaw09.LoopsNest': WHATEVER THE INPUT: true; the input reads as it did. -/
def loopsNestSpec : ChangeSpec := { name := "loopsNest", fn := fun _ => fun
  | [d] => { results := [.lit (.bool true)], args := [d] }
  | _ => none }
def loopsNestRow : OpenClaim := { program := "ytglbepdjahddmaa", sum := "c9d3945c8aa6baaabed5dca517f4ae207d54c8dda29c29db9706205f52df579b", func := "strake/strakelaw09.LoopsNest", spec := "loopsNest", unfollowed := true, recurses := true, apart := false }
def LoopsNestSaid : Prop := loopsNestRow.holds Try.pinned (OpenSpec.ofChange loopsNestSpec)

/-- ITS FALSE NEIGHBOUR: 'it returns false'. Refute it at one input. -/
def loopsNestWrong : ChangeSpec := { name := "loopsNest", fn := fun _ => fun
  | [d] => { results := [.lit (.bool false)], args := [d] }
  | _ => none }
def LoopsNestWrongFalsely : Prop := loopsNestRow.holds Try.pinned (OpenSpec.ofChange loopsNestWrong)

/-- 'strakelaw09.LoopsShut': WHATEVER THE INPUT: true; the input reads as it did. -/
def loopsShutSpec : ChangeSpec := { name := "loopsShut", fn := fun _ => fun
  | [d] => { results := [.lit (.bool true)], args := [d] }
  | _ => none }
def loopsShutRow : OpenClaim := { program := "ytglbepdjahddmaa", sum := "c9d3945c8aa6baaabed5dca517f4ae207d54c8dda29c29db9706205f52df579b", func := "strake/strakelaw09.LoopsShut", spec := "loopsShut", unfollowed := true, recurses := true, apart := false }
def LoopsShutSaid : Prop := loopsShutRow.holds Try.pinned (OpenSpec.ofChange loopsShutSpec)

/-- ITS FALSE NEIGHBOUR: 'it returns false'. Refute it at one input. -/
def loopsShutWrong : ChangeSpec := { name := "loopsShut", fn := fun _ => fun
  | [d] => { results := [.lit (.bool false)], args := [d] }
  | _ => none }
def LoopsShutWrongFalsely : Prop := loopsShutRow.holds Try.pinned (OpenSpec.ofChange loopsShutWrong)

/-- 'strakelaw09.LoopsWays': WHATEVER THE INPUT: true; the input reads as it did. -/
def loopsWaysSpec : ChangeSpec := { name := "loopsWays", fn := fun _ => fun
  | [d] => { results := [.lit (.bool true)], args := [d] }
  | _ => none }
def loopsWaysRow : OpenClaim := { program := "ytglbepdjahddmaa", sum := "c9d3945c8aa6baaabed5dca517f4ae207d54c8dda29c29db9706205f52df579b", func := "strake/strakelaw09.LoopsWays", spec := "loopsWays", unfollowed := true, recurses := true, apart := false }
def LoopsWaysSaid : Prop := loopsWaysRow.holds Try.pinned (OpenSpec.ofChange loopsWaysSpec)

/-- ITS FALSE NEIGHBOUR: 'it returns false'. Refute it at one input. -/
def loopsWaysWrong : ChangeSpec := { name := "loopsWays", fn := fun _ => fun
  | [d] => { results := [.lit (.bool false)], args := [d] }
  | _ => none }
def LoopsWaysWrongFalsely : Prop := loopsWaysRow.holds Try.pinned (OpenSpec.ofChange loopsWaysWrong)

/- THE SECOND FORM. 'bulk': how many values and letters a reading holds, each counted each time it is reached (what is shared counts as often as it is met; a slice's spare places count too). A statement '..UptoSaid' is the law's where the arguments, and the package variables that the reading takes, are together of bulk at most 1048576: NARROWER than '..Said'. Prove '..Said' where nothing that the law and all that it calls make is longer than what came in: it says more and counts as full. Else prove '..UptoSaid'. A law counts once. -/
mutual
def uptoBulk {H : Type} : DataW H → Nat
  | .lit (.string bytes) => bytes.length + 1
  | .lit _ => 1
  | .nil => 1
  | .ptr d => uptoBulk d + 1
  | .slice elems spare => uptoBulkAll elems + uptoBulkAll spare + 1
  | .agg parts => uptoBulkAll parts + 1
  | .iface _ d => uptoBulk d + 1
  | .map entries => uptoBulkEntries entries + 1
  | .held _ => 1
def uptoBulkAll {H : Type} : List (DataW H) → Nat
  | [] => 0
  | d :: r => uptoBulk d + uptoBulkAll r
def uptoBulkEntries {H : Type} : List (Lit × DataW H) → Nat
  | [] => 0
  | x :: r => uptoBulkEntry x + uptoBulkEntries r
def uptoBulkEntry {H : Type} : Lit × DataW H → Nat
  | (.string bytes, d) => bytes.length + uptoBulk d + 1
  | (_, d) => uptoBulk d + 1
 end
def uptoSmall : (H : Type) → List (DataW H) → Bool := fun _ ds => decide (uptoBulkAll ds ≤ 1048576)
def OpenSpec.upto (s : _root_.Go.ChangeSpec) : _root_.Go.OpenSpec := { _root_.Go.OpenSpec.ofChange s with cond := some uptoSmall }

/-- 'strakelaw09.LoopsFound', WHERE WHAT IT READS IS OF BULK AT MOST 1048576: true; the input reads as it did. -/
def loopsFoundUptoRow : OpenClaim := { program := "ytglbepdjahddmaa", sum := "c9d3945c8aa6baaabed5dca517f4ae207d54c8dda29c29db9706205f52df579b", func := "strake/strakelaw09.LoopsFound", spec := "loopsFound", unfollowed := true, recurses := true, apart := false, narrowed := true }
def LoopsFoundUptoSaid : Prop := loopsFoundUptoRow.holds Try.pinned (OpenSpec.upto loopsFoundSpec)

/-- 'strakelaw09.LoopsNest', WHERE WHAT IT READS IS OF BULK AT MOST 1048576: true; the input reads as it did. -/
def loopsNestUptoRow : OpenClaim := { program := "ytglbepdjahddmaa", sum := "c9d3945c8aa6baaabed5dca517f4ae207d54c8dda29c29db9706205f52df579b", func := "strake/strakelaw09.LoopsNest", spec := "loopsNest", unfollowed := true, recurses := true, apart := false, narrowed := true }
def LoopsNestUptoSaid : Prop := loopsNestUptoRow.holds Try.pinned (OpenSpec.upto loopsNestSpec)

/-- 'strakelaw09.LoopsShut', WHERE WHAT IT READS IS OF BULK AT MOST 1048576: true; the input reads as it did. -/
def loopsShutUptoRow : OpenClaim := { program := "ytglbepdjahddmaa", sum := "c9d3945c8aa6baaabed5dca517f4ae207d54c8dda29c29db9706205f52df579b", func := "strake/strakelaw09.LoopsShut", spec := "loopsShut", unfollowed := true, recurses := true, apart := false, narrowed := true }
def LoopsShutUptoSaid : Prop := loopsShutUptoRow.holds Try.pinned (OpenSpec.upto loopsShutSpec)

/-- 'strakelaw09.LoopsWays', WHERE WHAT IT READS IS OF BULK AT MOST 1048576: true; the input reads as it did. -/
def loopsWaysUptoRow : OpenClaim := { program := "ytglbepdjahddmaa", sum := "c9d3945c8aa6baaabed5dca517f4ae207d54c8dda29c29db9706205f52df579b", func := "strake/strakelaw09.LoopsWays", spec := "loopsWays", unfollowed := true, recurses := true, apart := false, narrowed := true }
def LoopsWaysUptoSaid : Prop := loopsWaysUptoRow.holds Try.pinned (OpenSpec.upto loopsWaysSpec)

end Rows
end Go.Proofs.Ytglbepdjahddmaa
