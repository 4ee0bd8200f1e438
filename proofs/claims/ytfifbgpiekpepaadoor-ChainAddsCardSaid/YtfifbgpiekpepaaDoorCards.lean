/-
  DERIVED. GIVEN WITH THE SEED: THE CARDS: each row of YtfifbgpiekpepaaDoorRows.lean that lists a variable, with what it lists TIED to the program's text (the seventh form; the later family's looks); each row that meets fmt, with fmt's text TOLD by the authors' own Lean function (tested against real Go, not proved from fmt's source: count such statements apart). THE CARD IS WHAT COUNTS. Prove the row's statement (the work); the ties are given (YtfifbgpiekpepaaDoorTie.lean); close each card by the builder's one call (the guide's Derived/Test/ToyasCard.lean, 'card_holds'). Laid BY PROGRAM, IN A SANDBOX (cutbox-door.mjs). By AI agents, Wed Nov 11 2026. No macro, syntax, notation, axiom, sorry.
-/
import Derived.Test.YtfifbgpiekpepaaDoorRows
import GoSem.ClaimSeven
namespace Go.Proofs.YtfifbgpiekpepaaDoor
namespace Rows

/-- THE TIED CARD OF 'strakelaw12.ChainAdds'. -/
def chainAddsCard : Claim7 := { stood := { row := chainAddsRow, standIns := [], harness := (true, "ae35a3df3c8ae01921f5f75af9957670cdbe4ce3d4fb01d09b7a370aa2c07934"), looks := false }, kinds := [], alts := [], laidByText := true, laidKinds := [.data], laidTests := true, laidLooks := .later }
def ChainAddsCardSaid : Prop := Claim7.holds Tryd.pinned (.plain (OpenSpec.ofChange chainAddsSpec)) chainAddsCard

/-- THE TIED CARD OF 'strakelaw12.ChainMuls'. -/
def chainMulsCard : Claim7 := { stood := { row := chainMulsRow, standIns := [], harness := (true, "ae35a3df3c8ae01921f5f75af9957670cdbe4ce3d4fb01d09b7a370aa2c07934"), looks := false }, kinds := [], alts := [], laidByText := true, laidKinds := [.data], laidTests := true, laidLooks := .later }
def ChainMulsCardSaid : Prop := Claim7.holds Tryd.pinned (.plain (OpenSpec.ofChange chainMulsSpec)) chainMulsCard

/-- THE TIED CARD OF 'strakelaw12.ChainSums'. -/
def chainSumsCard : Claim7 := { stood := { row := chainSumsRow, standIns := [], harness := (true, "ae35a3df3c8ae01921f5f75af9957670cdbe4ce3d4fb01d09b7a370aa2c07934"), looks := false }, kinds := [], alts := [], laidByText := true, laidKinds := [.data], laidTests := true, laidLooks := .later }
def ChainSumsCardSaid : Prop := Claim7.holds Tryd.pinned (.plain (OpenSpec.ofChange chainSumsSpec)) chainSumsCard

/-- THE TIED CARD OF 'strakelaw12.ChainFits'. -/
def chainFitsCard : Claim7 := { stood := { row := chainFitsRow, standIns := [], harness := (true, "ae35a3df3c8ae01921f5f75af9957670cdbe4ce3d4fb01d09b7a370aa2c07934"), looks := false }, kinds := [], alts := [], laidByText := true, laidKinds := [.data], laidTests := true, laidLooks := .later }
def ChainFitsCardSaid : Prop := Claim7.holds Tryd.pinned (.plain (OpenSpec.ofChange chainFitsSpec)) chainFitsCard

/-- THE TIED CARD OF 'strakelaw12.ChainLaws'. -/
def chainLawsCard : Claim7 := { stood := { row := chainLawsRow, standIns := [], harness := (true, "ae35a3df3c8ae01921f5f75af9957670cdbe4ce3d4fb01d09b7a370aa2c07934"), looks := false }, kinds := [], alts := [], laidByText := true, laidKinds := [.data], laidTests := true, laidLooks := .later }
def ChainLawsCardSaid : Prop := Claim7.holds Tryd.pinned (.plain (OpenSpec.ofChange chainLawsSpec)) chainLawsCard

/-- THE TIED CARD OF 'strakelaw12.ChainBack'. -/
def chainBackCard : Claim7 := { stood := { row := chainBackRow, standIns := [], harness := (true, "ae35a3df3c8ae01921f5f75af9957670cdbe4ce3d4fb01d09b7a370aa2c07934"), looks := false }, kinds := [], alts := [], laidByText := true, laidKinds := [.data], laidTests := true, laidLooks := .later }
def ChainBackCardSaid : Prop := Claim7.holds Tryd.pinned (.plain (OpenSpec.ofChange chainBackSpec)) chainBackCard

/-- THE TIED CARD OF 'strakelaw12.ChainSwaps'. -/
def chainSwapsCard : Claim7 := { stood := { row := chainSwapsRow, standIns := [], harness := (true, "ae35a3df3c8ae01921f5f75af9957670cdbe4ce3d4fb01d09b7a370aa2c07934"), looks := false }, kinds := [], alts := [], laidByText := true, laidKinds := [.data], laidTests := true, laidLooks := .later }
def ChainSwapsCardSaid : Prop := Claim7.holds Tryd.pinned (.plain (OpenSpec.ofChange chainSwapsSpec)) chainSwapsCard

/-- THE TIED CARD OF 'strakelaw12.ChainEnds'. -/
def chainEndsCard : Claim7 := { stood := { row := chainEndsRow, standIns := [], harness := (true, "ae35a3df3c8ae01921f5f75af9957670cdbe4ce3d4fb01d09b7a370aa2c07934"), looks := false }, kinds := [], alts := [], laidByText := true, laidKinds := [.data], laidTests := true, laidLooks := .later }
def ChainEndsCardSaid : Prop := Claim7.holds Tryd.pinned (.plain (OpenSpec.ofChange chainEndsSpec)) chainEndsCard

/-- THE SECOND FORM's CARD OF 'strakelaw12.ChainAdds'. -/
def chainAddsUptoCard : Claim7 := { stood := { row := chainAddsUptoRow, standIns := [], harness := (true, "ae35a3df3c8ae01921f5f75af9957670cdbe4ce3d4fb01d09b7a370aa2c07934"), looks := false }, kinds := [], alts := [], laidByText := true, laidKinds := [.data], laidTests := true, laidLooks := .later }
def ChainAddsUptoCardSaid : Prop := Claim7.holds Tryd.pinned (.plain (OpenSpec.upto chainAddsSpec)) chainAddsUptoCard

/-- THE SECOND FORM's CARD OF 'strakelaw12.ChainMuls'. -/
def chainMulsUptoCard : Claim7 := { stood := { row := chainMulsUptoRow, standIns := [], harness := (true, "ae35a3df3c8ae01921f5f75af9957670cdbe4ce3d4fb01d09b7a370aa2c07934"), looks := false }, kinds := [], alts := [], laidByText := true, laidKinds := [.data], laidTests := true, laidLooks := .later }
def ChainMulsUptoCardSaid : Prop := Claim7.holds Tryd.pinned (.plain (OpenSpec.upto chainMulsSpec)) chainMulsUptoCard

/-- THE SECOND FORM's CARD OF 'strakelaw12.ChainSums'. -/
def chainSumsUptoCard : Claim7 := { stood := { row := chainSumsUptoRow, standIns := [], harness := (true, "ae35a3df3c8ae01921f5f75af9957670cdbe4ce3d4fb01d09b7a370aa2c07934"), looks := false }, kinds := [], alts := [], laidByText := true, laidKinds := [.data], laidTests := true, laidLooks := .later }
def ChainSumsUptoCardSaid : Prop := Claim7.holds Tryd.pinned (.plain (OpenSpec.upto chainSumsSpec)) chainSumsUptoCard

/-- THE SECOND FORM's CARD OF 'strakelaw12.ChainFits'. -/
def chainFitsUptoCard : Claim7 := { stood := { row := chainFitsUptoRow, standIns := [], harness := (true, "ae35a3df3c8ae01921f5f75af9957670cdbe4ce3d4fb01d09b7a370aa2c07934"), looks := false }, kinds := [], alts := [], laidByText := true, laidKinds := [.data], laidTests := true, laidLooks := .later }
def ChainFitsUptoCardSaid : Prop := Claim7.holds Tryd.pinned (.plain (OpenSpec.upto chainFitsSpec)) chainFitsUptoCard

/-- THE SECOND FORM's CARD OF 'strakelaw12.ChainLaws'. -/
def chainLawsUptoCard : Claim7 := { stood := { row := chainLawsUptoRow, standIns := [], harness := (true, "ae35a3df3c8ae01921f5f75af9957670cdbe4ce3d4fb01d09b7a370aa2c07934"), looks := false }, kinds := [], alts := [], laidByText := true, laidKinds := [.data], laidTests := true, laidLooks := .later }
def ChainLawsUptoCardSaid : Prop := Claim7.holds Tryd.pinned (.plain (OpenSpec.upto chainLawsSpec)) chainLawsUptoCard

/-- THE SECOND FORM's CARD OF 'strakelaw12.ChainBack'. -/
def chainBackUptoCard : Claim7 := { stood := { row := chainBackUptoRow, standIns := [], harness := (true, "ae35a3df3c8ae01921f5f75af9957670cdbe4ce3d4fb01d09b7a370aa2c07934"), looks := false }, kinds := [], alts := [], laidByText := true, laidKinds := [.data], laidTests := true, laidLooks := .later }
def ChainBackUptoCardSaid : Prop := Claim7.holds Tryd.pinned (.plain (OpenSpec.upto chainBackSpec)) chainBackUptoCard

/-- THE SECOND FORM's CARD OF 'strakelaw12.ChainSwaps'. -/
def chainSwapsUptoCard : Claim7 := { stood := { row := chainSwapsUptoRow, standIns := [], harness := (true, "ae35a3df3c8ae01921f5f75af9957670cdbe4ce3d4fb01d09b7a370aa2c07934"), looks := false }, kinds := [], alts := [], laidByText := true, laidKinds := [.data], laidTests := true, laidLooks := .later }
def ChainSwapsUptoCardSaid : Prop := Claim7.holds Tryd.pinned (.plain (OpenSpec.upto chainSwapsSpec)) chainSwapsUptoCard

/-- THE SECOND FORM's CARD OF 'strakelaw12.ChainEnds'. -/
def chainEndsUptoCard : Claim7 := { stood := { row := chainEndsUptoRow, standIns := [], harness := (true, "ae35a3df3c8ae01921f5f75af9957670cdbe4ce3d4fb01d09b7a370aa2c07934"), looks := false }, kinds := [], alts := [], laidByText := true, laidKinds := [.data], laidTests := true, laidLooks := .later }
def ChainEndsUptoCardSaid : Prop := Claim7.holds Tryd.pinned (.plain (OpenSpec.upto chainEndsSpec)) chainEndsUptoCard
end Rows
end Go.Proofs.YtfifbgpiekpepaaDoor
