/-
  DERIVED. GIVEN WITH THE SEED: THE CARDS: each row of YtidebjcnmabggaaDoorRows.lean that lists a variable, with what it lists TIED to the program's text (the seventh form; the later family's looks); each row that meets fmt, with fmt's text TOLD by the authors' own Lean function (tested against real Go, not proved from fmt's source: count such statements apart). THE CARD IS WHAT COUNTS. Prove the row's statement (the work); the ties are given (YtidebjcnmabggaaDoorTie.lean); close each card by the builder's one call (the guide's Derived/Test/ToyasCard.lean, 'card_holds'). Laid BY PROGRAM, IN A SANDBOX (cutbox-door.mjs). By AI agents, Wed Nov 11 2026. No macro, syntax, notation, axiom, sorry.
-/
import Derived.Test.YtidebjcnmabggaaDoorRows
import GoSem.ClaimSeven
namespace Go.Proofs.YtidebjcnmabggaaDoor
namespace Rows

/-- THE TIED CARD OF 'strakelaw13.ModularInverse'. -/
def modularInverseCard : Claim7 := { stood := { row := modularInverseRow, standIns := [], harness := (true, "4e0dec0d01ee95a1f3c66e8a36e6bce9386f3408af8ffe1cb66acc7852222be0"), looks := false }, kinds := [], alts := [], laidByText := true, laidKinds := [.data], laidTests := true, laidLooks := .later }
def ModularInverseCardSaid : Prop := Claim7.holds Tryd.pinned (.plain (OpenSpec.ofChange modularInverseSpec)) modularInverseCard

/-- THE TIED CARD OF 'strakelaw13.ModularSolves'. -/
def modularSolvesCard : Claim7 := { stood := { row := modularSolvesRow, standIns := [], harness := (true, "4e0dec0d01ee95a1f3c66e8a36e6bce9386f3408af8ffe1cb66acc7852222be0"), looks := false }, kinds := [], alts := [], laidByText := true, laidKinds := [.data], laidTests := true, laidLooks := .later }
def ModularSolvesCardSaid : Prop := Claim7.holds Tryd.pinned (.plain (OpenSpec.ofChange modularSolvesSpec)) modularSolvesCard

/-- THE TIED CARD OF 'strakelaw13.ModularFirsts'. -/
def modularFirstsCard : Claim7 := { stood := { row := modularFirstsRow, standIns := [], harness := (true, "4e0dec0d01ee95a1f3c66e8a36e6bce9386f3408af8ffe1cb66acc7852222be0"), looks := false }, kinds := [], alts := [], laidByText := true, laidKinds := [.data], laidTests := true, laidLooks := .later }
def ModularFirstsCardSaid : Prop := Claim7.holds Tryd.pinned (.plain (OpenSpec.ofChange modularFirstsSpec)) modularFirstsCard

/-- THE TIED CARD OF 'strakelaw13.ModularBits'. -/
def modularBitsCard : Claim7 := { stood := { row := modularBitsRow, standIns := [], harness := (true, "4e0dec0d01ee95a1f3c66e8a36e6bce9386f3408af8ffe1cb66acc7852222be0"), looks := false }, kinds := [], alts := [], laidByText := true, laidKinds := [.data], laidTests := true, laidLooks := .later }
def ModularBitsCardSaid : Prop := Claim7.holds Tryd.pinned (.plain (OpenSpec.ofChange modularBitsSpec)) modularBitsCard

/-- THE TIED CARD OF 'strakelaw13.ModularHits'. -/
def modularHitsCard : Claim7 := { stood := { row := modularHitsRow, standIns := [], harness := (true, "4e0dec0d01ee95a1f3c66e8a36e6bce9386f3408af8ffe1cb66acc7852222be0"), looks := false }, kinds := [], alts := [], laidByText := true, laidKinds := [.data], laidTests := true, laidLooks := .later }
def ModularHitsCardSaid : Prop := Claim7.holds Tryd.pinned (.plain (OpenSpec.ofChange modularHitsSpec)) modularHitsCard

/-- THE TIED CARD OF 'strakelaw13.ModularLater'. -/
def modularLaterCard : Claim7 := { stood := { row := modularLaterRow, standIns := [], harness := (true, "4e0dec0d01ee95a1f3c66e8a36e6bce9386f3408af8ffe1cb66acc7852222be0"), looks := false }, kinds := [], alts := [], laidByText := true, laidKinds := [.data], laidTests := true, laidLooks := .later }
def ModularLaterCardSaid : Prop := Claim7.holds Tryd.pinned (.plain (OpenSpec.ofChange modularLaterSpec)) modularLaterCard

/-- THE TIED CARD OF 'strakelaw13.ModularWhole'. -/
def modularWholeCard : Claim7 := { stood := { row := modularWholeRow, standIns := [], harness := (true, "4e0dec0d01ee95a1f3c66e8a36e6bce9386f3408af8ffe1cb66acc7852222be0"), looks := false }, kinds := [], alts := [], laidByText := true, laidKinds := [.data], laidTests := true, laidLooks := .later }
def ModularWholeCardSaid : Prop := Claim7.holds Tryd.pinned (.plain (OpenSpec.ofChange modularWholeSpec)) modularWholeCard

/-- THE TIED CARD OF 'strakelaw13.ModularPairs'. -/
def modularPairsCard : Claim7 := { stood := { row := modularPairsRow, standIns := [], harness := (true, "4e0dec0d01ee95a1f3c66e8a36e6bce9386f3408af8ffe1cb66acc7852222be0"), looks := false }, kinds := [], alts := [], laidByText := true, laidKinds := [.data], laidTests := true, laidLooks := .later }
def ModularPairsCardSaid : Prop := Claim7.holds Tryd.pinned (.plain (OpenSpec.ofChange modularPairsSpec)) modularPairsCard

/-- THE SECOND FORM's CARD OF 'strakelaw13.ModularInverse'. -/
def modularInverseUptoCard : Claim7 := { stood := { row := modularInverseUptoRow, standIns := [], harness := (true, "4e0dec0d01ee95a1f3c66e8a36e6bce9386f3408af8ffe1cb66acc7852222be0"), looks := false }, kinds := [], alts := [], laidByText := true, laidKinds := [.data], laidTests := true, laidLooks := .later }
def ModularInverseUptoCardSaid : Prop := Claim7.holds Tryd.pinned (.plain (OpenSpec.upto modularInverseSpec)) modularInverseUptoCard

/-- THE SECOND FORM's CARD OF 'strakelaw13.ModularSolves'. -/
def modularSolvesUptoCard : Claim7 := { stood := { row := modularSolvesUptoRow, standIns := [], harness := (true, "4e0dec0d01ee95a1f3c66e8a36e6bce9386f3408af8ffe1cb66acc7852222be0"), looks := false }, kinds := [], alts := [], laidByText := true, laidKinds := [.data], laidTests := true, laidLooks := .later }
def ModularSolvesUptoCardSaid : Prop := Claim7.holds Tryd.pinned (.plain (OpenSpec.upto modularSolvesSpec)) modularSolvesUptoCard

/-- THE SECOND FORM's CARD OF 'strakelaw13.ModularFirsts'. -/
def modularFirstsUptoCard : Claim7 := { stood := { row := modularFirstsUptoRow, standIns := [], harness := (true, "4e0dec0d01ee95a1f3c66e8a36e6bce9386f3408af8ffe1cb66acc7852222be0"), looks := false }, kinds := [], alts := [], laidByText := true, laidKinds := [.data], laidTests := true, laidLooks := .later }
def ModularFirstsUptoCardSaid : Prop := Claim7.holds Tryd.pinned (.plain (OpenSpec.upto modularFirstsSpec)) modularFirstsUptoCard

/-- THE SECOND FORM's CARD OF 'strakelaw13.ModularBits'. -/
def modularBitsUptoCard : Claim7 := { stood := { row := modularBitsUptoRow, standIns := [], harness := (true, "4e0dec0d01ee95a1f3c66e8a36e6bce9386f3408af8ffe1cb66acc7852222be0"), looks := false }, kinds := [], alts := [], laidByText := true, laidKinds := [.data], laidTests := true, laidLooks := .later }
def ModularBitsUptoCardSaid : Prop := Claim7.holds Tryd.pinned (.plain (OpenSpec.upto modularBitsSpec)) modularBitsUptoCard

/-- THE SECOND FORM's CARD OF 'strakelaw13.ModularHits'. -/
def modularHitsUptoCard : Claim7 := { stood := { row := modularHitsUptoRow, standIns := [], harness := (true, "4e0dec0d01ee95a1f3c66e8a36e6bce9386f3408af8ffe1cb66acc7852222be0"), looks := false }, kinds := [], alts := [], laidByText := true, laidKinds := [.data], laidTests := true, laidLooks := .later }
def ModularHitsUptoCardSaid : Prop := Claim7.holds Tryd.pinned (.plain (OpenSpec.upto modularHitsSpec)) modularHitsUptoCard

/-- THE SECOND FORM's CARD OF 'strakelaw13.ModularLater'. -/
def modularLaterUptoCard : Claim7 := { stood := { row := modularLaterUptoRow, standIns := [], harness := (true, "4e0dec0d01ee95a1f3c66e8a36e6bce9386f3408af8ffe1cb66acc7852222be0"), looks := false }, kinds := [], alts := [], laidByText := true, laidKinds := [.data], laidTests := true, laidLooks := .later }
def ModularLaterUptoCardSaid : Prop := Claim7.holds Tryd.pinned (.plain (OpenSpec.upto modularLaterSpec)) modularLaterUptoCard

/-- THE SECOND FORM's CARD OF 'strakelaw13.ModularWhole'. -/
def modularWholeUptoCard : Claim7 := { stood := { row := modularWholeUptoRow, standIns := [], harness := (true, "4e0dec0d01ee95a1f3c66e8a36e6bce9386f3408af8ffe1cb66acc7852222be0"), looks := false }, kinds := [], alts := [], laidByText := true, laidKinds := [.data], laidTests := true, laidLooks := .later }
def ModularWholeUptoCardSaid : Prop := Claim7.holds Tryd.pinned (.plain (OpenSpec.upto modularWholeSpec)) modularWholeUptoCard

/-- THE SECOND FORM's CARD OF 'strakelaw13.ModularPairs'. -/
def modularPairsUptoCard : Claim7 := { stood := { row := modularPairsUptoRow, standIns := [], harness := (true, "4e0dec0d01ee95a1f3c66e8a36e6bce9386f3408af8ffe1cb66acc7852222be0"), looks := false }, kinds := [], alts := [], laidByText := true, laidKinds := [.data], laidTests := true, laidLooks := .later }
def ModularPairsUptoCardSaid : Prop := Claim7.holds Tryd.pinned (.plain (OpenSpec.upto modularPairsSpec)) modularPairsUptoCard
end Rows
end Go.Proofs.YtidebjcnmabggaaDoor
