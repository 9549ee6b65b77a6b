/-
  DERIVED. GIVEN WITH THE SEED: THE CARDS: each row of YtnbhmgonijlplaaDoorRows.lean that lists a variable, with what it lists TIED to the program's text (the seventh form; the later family's looks); each row that meets fmt, with fmt's text TOLD by the authors' own Lean function (tested against real Go, not proved from fmt's source: count such statements apart). THE CARD IS WHAT COUNTS. Prove the row's statement (the work); the ties are given (YtnbhmgonijlplaaDoorTie.lean); close each card by the builder's one call (the guide's Derived/Test/ToyasCard.lean, 'card_holds'). Laid BY PROGRAM, IN A SANDBOX (cutbox-door.mjs). By AI agents, Wed Nov 11 2026. No macro, syntax, notation, axiom, sorry.
-/
import Derived.Test.YtnbhmgonijlplaaDoorRows
import GoSem.ClaimSeven
namespace Go.Proofs.YtnbhmgonijlplaaDoor
namespace Rows

/-- THE TIED CARD OF 'hornbeamlaw04.OpsPlays'. -/
def opsPlaysCard : Claim7 := { stood := { row := opsPlaysRow, standIns := [], harness := (true, "ecfb4c3d6a1e19f75935aebdce2a9261ecfe5a1becaef2a9308f09585c88be94"), looks := true }, kinds := [], alts := [], laidByText := true, laidKinds := [.listed, .data, .data], laidTests := true, laidLooks := .later }
def OpsPlaysCardSaid : Prop := Claim7.holds Tryd.pinned (.plain (OpenSpec.ofChange opsPlaysSpec)) opsPlaysCard

/-- THE TIED CARD OF 'hornbeamlaw04.OpsTypes'. -/
def opsTypesCard : Claim7 := { stood := { row := opsTypesRow, standIns := [], harness := (true, "ecfb4c3d6a1e19f75935aebdce2a9261ecfe5a1becaef2a9308f09585c88be94"), looks := true }, kinds := [], alts := [], laidByText := true, laidKinds := [.listed, .data, .data], laidTests := true, laidLooks := .later }
def OpsTypesCardSaid : Prop := Claim7.holds Tryd.pinned (.plain (OpenSpec.ofChange opsTypesSpec)) opsTypesCard

/-- THE TIED CARD OF 'hornbeamlaw04.OpsAdds'. -/
def opsAddsCard : Claim7 := { stood := { row := opsAddsRow, standIns := [], harness := (true, "ecfb4c3d6a1e19f75935aebdce2a9261ecfe5a1becaef2a9308f09585c88be94"), looks := true }, kinds := [], alts := [], laidByText := true, laidKinds := [.listed, .data, .data], laidTests := true, laidLooks := .later }
def OpsAddsCardSaid : Prop := Claim7.holds Tryd.pinned (.plain (OpenSpec.ofChange opsAddsSpec)) opsAddsCard

/-- THE TIED CARD OF 'hornbeamlaw04.OpsApart'. -/
def opsApartCard : Claim7 := { stood := { row := opsApartRow, standIns := [], harness := (true, "ecfb4c3d6a1e19f75935aebdce2a9261ecfe5a1becaef2a9308f09585c88be94"), looks := true }, kinds := [], alts := [], laidByText := true, laidKinds := [.listed, .data, .data], laidTests := true, laidLooks := .later }
def OpsApartCardSaid : Prop := Claim7.holds Tryd.pinned (.plain (OpenSpec.ofChange opsApartSpec)) opsApartCard

/-- THE TIED CARD OF 'hornbeamlaw04.OpsCopies'. -/
def opsCopiesCard : Claim7 := { stood := { row := opsCopiesRow, standIns := [], harness := (true, "ecfb4c3d6a1e19f75935aebdce2a9261ecfe5a1becaef2a9308f09585c88be94"), looks := true }, kinds := [], alts := [], laidByText := true, laidKinds := [.listed, .data, .data], laidTests := true, laidLooks := .later }
def OpsCopiesCardSaid : Prop := Claim7.holds Tryd.pinned (.plain (OpenSpec.ofChange opsCopiesSpec)) opsCopiesCard

/-- THE TIED CARD OF 'hornbeamlaw04.OpsNone'. -/
def opsNoneCard : Claim7 := { stood := { row := opsNoneRow, standIns := [], harness := (true, "ecfb4c3d6a1e19f75935aebdce2a9261ecfe5a1becaef2a9308f09585c88be94"), looks := true }, kinds := [], alts := [], laidByText := true, laidKinds := [.listed, .data, .data], laidTests := true, laidLooks := .later }
def OpsNoneCardSaid : Prop := Claim7.holds Tryd.pinned (.plain (OpenSpec.ofChange opsNoneSpec)) opsNoneCard

/-- THE SECOND FORM's CARD OF 'hornbeamlaw04.OpsPlays'. -/
def opsPlaysUptoCard : Claim7 := { stood := { row := opsPlaysUptoRow, standIns := [], harness := (true, "ecfb4c3d6a1e19f75935aebdce2a9261ecfe5a1becaef2a9308f09585c88be94"), looks := true }, kinds := [], alts := [], laidByText := true, laidKinds := [.listed, .data, .data], laidTests := true, laidLooks := .later }
def OpsPlaysUptoCardSaid : Prop := Claim7.holds Tryd.pinned (.plain (OpenSpec.upto opsPlaysSpec)) opsPlaysUptoCard

/-- THE SECOND FORM's CARD OF 'hornbeamlaw04.OpsTypes'. -/
def opsTypesUptoCard : Claim7 := { stood := { row := opsTypesUptoRow, standIns := [], harness := (true, "ecfb4c3d6a1e19f75935aebdce2a9261ecfe5a1becaef2a9308f09585c88be94"), looks := true }, kinds := [], alts := [], laidByText := true, laidKinds := [.listed, .data, .data], laidTests := true, laidLooks := .later }
def OpsTypesUptoCardSaid : Prop := Claim7.holds Tryd.pinned (.plain (OpenSpec.upto opsTypesSpec)) opsTypesUptoCard

/-- THE SECOND FORM's CARD OF 'hornbeamlaw04.OpsAdds'. -/
def opsAddsUptoCard : Claim7 := { stood := { row := opsAddsUptoRow, standIns := [], harness := (true, "ecfb4c3d6a1e19f75935aebdce2a9261ecfe5a1becaef2a9308f09585c88be94"), looks := true }, kinds := [], alts := [], laidByText := true, laidKinds := [.listed, .data, .data], laidTests := true, laidLooks := .later }
def OpsAddsUptoCardSaid : Prop := Claim7.holds Tryd.pinned (.plain (OpenSpec.upto opsAddsSpec)) opsAddsUptoCard

/-- THE SECOND FORM's CARD OF 'hornbeamlaw04.OpsApart'. -/
def opsApartUptoCard : Claim7 := { stood := { row := opsApartUptoRow, standIns := [], harness := (true, "ecfb4c3d6a1e19f75935aebdce2a9261ecfe5a1becaef2a9308f09585c88be94"), looks := true }, kinds := [], alts := [], laidByText := true, laidKinds := [.listed, .data, .data], laidTests := true, laidLooks := .later }
def OpsApartUptoCardSaid : Prop := Claim7.holds Tryd.pinned (.plain (OpenSpec.upto opsApartSpec)) opsApartUptoCard

/-- THE SECOND FORM's CARD OF 'hornbeamlaw04.OpsCopies'. -/
def opsCopiesUptoCard : Claim7 := { stood := { row := opsCopiesUptoRow, standIns := [], harness := (true, "ecfb4c3d6a1e19f75935aebdce2a9261ecfe5a1becaef2a9308f09585c88be94"), looks := true }, kinds := [], alts := [], laidByText := true, laidKinds := [.listed, .data, .data], laidTests := true, laidLooks := .later }
def OpsCopiesUptoCardSaid : Prop := Claim7.holds Tryd.pinned (.plain (OpenSpec.upto opsCopiesSpec)) opsCopiesUptoCard

/-- THE SECOND FORM's CARD OF 'hornbeamlaw04.OpsNone'. -/
def opsNoneUptoCard : Claim7 := { stood := { row := opsNoneUptoRow, standIns := [], harness := (true, "ecfb4c3d6a1e19f75935aebdce2a9261ecfe5a1becaef2a9308f09585c88be94"), looks := true }, kinds := [], alts := [], laidByText := true, laidKinds := [.listed, .data, .data], laidTests := true, laidLooks := .later }
def OpsNoneUptoCardSaid : Prop := Claim7.holds Tryd.pinned (.plain (OpenSpec.upto opsNoneSpec)) opsNoneUptoCard
end Rows
end Go.Proofs.YtnbhmgonijlplaaDoor
