/-
  DERIVED. GIVEN WITH THE SEED: THE CARDS: each row of YtldafoojkimdeaaDoorRows.lean that lists a variable, with what it lists TIED to the program's text (the seventh form; the later family's looks); each row that meets fmt, with fmt's text TOLD by the authors' own Lean function (tested against real Go, not proved from fmt's source: count such statements apart). THE CARD IS WHAT COUNTS. Prove the row's statement (the work); the ties are given (YtldafoojkimdeaaDoorTie.lean); close each card by the builder's one call (the guide's Derived/Test/ToyasCard.lean, 'card_holds'). Laid BY PROGRAM, IN A SANDBOX (cutbox-door.mjs). By AI agents, Wed Nov 11 2026. No macro, syntax, notation, axiom, sorry.
-/
import Derived.Test.YtldafoojkimdeaaDoorRows
import GoSem.ClaimSeven
namespace Go.Proofs.YtldafoojkimdeaaDoor
namespace Rows

/-- THE TIED CARD OF 'hornbeamlaw01.BigintForms'. -/
def bigintFormsCard : Claim7 := { stood := { row := bigintFormsRow, standIns := [], harness := (true, "36dc6b8bfd7f5635b49cfcbaa9d4953f41b099f446967db39f28c5b805881ca4"), looks := false }, kinds := [], alts := [], laidByText := true, laidKinds := [.data, .pinned], laidTests := true, laidLooks := .later }
def BigintFormsCardSaid : Prop := Claim7.holds Tryd.pinned (.plain (OpenSpec.ofChange bigintFormsSpec)) bigintFormsCard

/-- THE TIED CARD OF 'hornbeamlaw01.BigintSums'. -/
def bigintSumsCard : Claim7 := { stood := { row := bigintSumsRow, standIns := [], harness := (true, "36dc6b8bfd7f5635b49cfcbaa9d4953f41b099f446967db39f28c5b805881ca4"), looks := false }, kinds := [], alts := [], laidByText := true, laidKinds := [.data, .pinned], laidTests := true, laidLooks := .later }
def BigintSumsCardSaid : Prop := Claim7.holds Tryd.pinned (.plain (OpenSpec.ofChange bigintSumsSpec)) bigintSumsCard

/-- THE TIED CARD OF 'hornbeamlaw01.BigintDivides'. -/
def bigintDividesCard : Claim7 := { stood := { row := bigintDividesRow, standIns := [], harness := (true, "36dc6b8bfd7f5635b49cfcbaa9d4953f41b099f446967db39f28c5b805881ca4"), looks := false }, kinds := [], alts := [], laidByText := true, laidKinds := [.data, .pinned], laidTests := true, laidLooks := .later }
def BigintDividesCardSaid : Prop := Claim7.holds Tryd.pinned (.plain (OpenSpec.ofChange bigintDividesSpec)) bigintDividesCard

/-- THE TIED CARD OF 'hornbeamlaw01.BigintBits'. -/
def bigintBitsCard : Claim7 := { stood := { row := bigintBitsRow, standIns := [], harness := (true, "36dc6b8bfd7f5635b49cfcbaa9d4953f41b099f446967db39f28c5b805881ca4"), looks := false }, kinds := [], alts := [], laidByText := true, laidKinds := [.data, .pinned], laidTests := true, laidLooks := .later }
def BigintBitsCardSaid : Prop := Claim7.holds Tryd.pinned (.plain (OpenSpec.ofChange bigintBitsSpec)) bigintBitsCard

/-- THE TIED CARD OF 'hornbeamlaw01.BigintPowers'. -/
def bigintPowersCard : Claim7 := { stood := { row := bigintPowersRow, standIns := [], harness := (true, "36dc6b8bfd7f5635b49cfcbaa9d4953f41b099f446967db39f28c5b805881ca4"), looks := false }, kinds := [], alts := [], laidByText := true, laidKinds := [.data, .pinned], laidTests := true, laidLooks := .later }
def BigintPowersCardSaid : Prop := Claim7.holds Tryd.pinned (.plain (OpenSpec.ofChange bigintPowersSpec)) bigintPowersCard

/-- THE TIED CARD OF 'hornbeamlaw01.BigintTexts'. -/
def bigintTextsCard : Claim7 := { stood := { row := bigintTextsRow, standIns := [], harness := (true, "36dc6b8bfd7f5635b49cfcbaa9d4953f41b099f446967db39f28c5b805881ca4"), looks := false }, kinds := [], alts := [], laidByText := true, laidKinds := [.data, .pinned], laidTests := true, laidLooks := .later }
def BigintTextsCardSaid : Prop := Claim7.holds Tryd.pinned (.plain (OpenSpec.ofChange bigintTextsSpec)) bigintTextsCard

/-- THE TIED CARD OF 'hornbeamlaw01.BigintFloats'. -/
def bigintFloatsCard : Claim7 := { stood := { row := bigintFloatsRow, standIns := [], harness := (true, "36dc6b8bfd7f5635b49cfcbaa9d4953f41b099f446967db39f28c5b805881ca4"), looks := false }, kinds := [], alts := [], laidByText := true, laidKinds := [.data, .pinned], laidTests := true, laidLooks := .later }
def BigintFloatsCardSaid : Prop := Claim7.holds Tryd.pinned (.plain (OpenSpec.ofChange bigintFloatsSpec)) bigintFloatsCard

/-- THE TIED CARD OF 'hornbeamlaw01.BigintRings'. -/
def bigintRingsCard : Claim7 := { stood := { row := bigintRingsRow, standIns := [], harness := (true, "36dc6b8bfd7f5635b49cfcbaa9d4953f41b099f446967db39f28c5b805881ca4"), looks := false }, kinds := [], alts := [], laidByText := true, laidKinds := [.data, .pinned], laidTests := true, laidLooks := .later }
def BigintRingsCardSaid : Prop := Claim7.holds Tryd.pinned (.plain (OpenSpec.ofChange bigintRingsSpec)) bigintRingsCard

/-- THE TIED CARD OF 'hornbeamlaw01.BigintParts'. -/
def bigintPartsCard : Claim7 := { stood := { row := bigintPartsRow, standIns := [], harness := (true, "36dc6b8bfd7f5635b49cfcbaa9d4953f41b099f446967db39f28c5b805881ca4"), looks := false }, kinds := [], alts := [], laidByText := true, laidKinds := [.data, .pinned], laidTests := true, laidLooks := .later }
def BigintPartsCardSaid : Prop := Claim7.holds Tryd.pinned (.plain (OpenSpec.ofChange bigintPartsSpec)) bigintPartsCard

/-- THE TIED CARD OF 'hornbeamlaw01.BigintReads'. -/
def bigintReadsCard : Claim7 := { stood := { row := bigintReadsRow, standIns := [], harness := (true, "36dc6b8bfd7f5635b49cfcbaa9d4953f41b099f446967db39f28c5b805881ca4"), looks := false }, kinds := [], alts := [], laidByText := true, laidKinds := [.data, .pinned], laidTests := true, laidLooks := .later }
def BigintReadsCardSaid : Prop := Claim7.holds Tryd.pinned (.plain (OpenSpec.ofChange bigintReadsSpec)) bigintReadsCard

/-- THE TIED CARD OF 'hornbeamlaw01.BigintSets'. -/
def bigintSetsCard : Claim7 := { stood := { row := bigintSetsRow, standIns := [], harness := (true, "36dc6b8bfd7f5635b49cfcbaa9d4953f41b099f446967db39f28c5b805881ca4"), looks := false }, kinds := [], alts := [], laidByText := true, laidKinds := [.data, .pinned], laidTests := true, laidLooks := .later }
def BigintSetsCardSaid : Prop := Claim7.holds Tryd.pinned (.plain (OpenSpec.ofChange bigintSetsSpec)) bigintSetsCard

/-- THE TIED CARD OF 'hornbeamlaw01.BigintShifts'. -/
def bigintShiftsCard : Claim7 := { stood := { row := bigintShiftsRow, standIns := [], harness := (true, "36dc6b8bfd7f5635b49cfcbaa9d4953f41b099f446967db39f28c5b805881ca4"), looks := false }, kinds := [], alts := [], laidByText := true, laidKinds := [.data, .pinned], laidTests := true, laidLooks := .later }
def BigintShiftsCardSaid : Prop := Claim7.holds Tryd.pinned (.plain (OpenSpec.ofChange bigintShiftsSpec)) bigintShiftsCard

/-- THE TIED CARD OF 'hornbeamlaw01.BigintNear'. -/
def bigintNearCard : Claim7 := { stood := { row := bigintNearRow, standIns := [], harness := (true, "36dc6b8bfd7f5635b49cfcbaa9d4953f41b099f446967db39f28c5b805881ca4"), looks := false }, kinds := [], alts := [], laidByText := true, laidKinds := [.data, .pinned], laidTests := true, laidLooks := .later }
def BigintNearCardSaid : Prop := Claim7.holds Tryd.pinned (.plain (OpenSpec.ofChange bigintNearSpec)) bigintNearCard

/-- THE SECOND FORM's CARD OF 'hornbeamlaw01.BigintForms'. -/
def bigintFormsUptoCard : Claim7 := { stood := { row := bigintFormsUptoRow, standIns := [], harness := (true, "36dc6b8bfd7f5635b49cfcbaa9d4953f41b099f446967db39f28c5b805881ca4"), looks := false }, kinds := [], alts := [], laidByText := true, laidKinds := [.data, .pinned], laidTests := true, laidLooks := .later }
def BigintFormsUptoCardSaid : Prop := Claim7.holds Tryd.pinned (.plain (OpenSpec.upto bigintFormsSpec)) bigintFormsUptoCard

/-- THE SECOND FORM's CARD OF 'hornbeamlaw01.BigintSums'. -/
def bigintSumsUptoCard : Claim7 := { stood := { row := bigintSumsUptoRow, standIns := [], harness := (true, "36dc6b8bfd7f5635b49cfcbaa9d4953f41b099f446967db39f28c5b805881ca4"), looks := false }, kinds := [], alts := [], laidByText := true, laidKinds := [.data, .pinned], laidTests := true, laidLooks := .later }
def BigintSumsUptoCardSaid : Prop := Claim7.holds Tryd.pinned (.plain (OpenSpec.upto bigintSumsSpec)) bigintSumsUptoCard

/-- THE SECOND FORM's CARD OF 'hornbeamlaw01.BigintDivides'. -/
def bigintDividesUptoCard : Claim7 := { stood := { row := bigintDividesUptoRow, standIns := [], harness := (true, "36dc6b8bfd7f5635b49cfcbaa9d4953f41b099f446967db39f28c5b805881ca4"), looks := false }, kinds := [], alts := [], laidByText := true, laidKinds := [.data, .pinned], laidTests := true, laidLooks := .later }
def BigintDividesUptoCardSaid : Prop := Claim7.holds Tryd.pinned (.plain (OpenSpec.upto bigintDividesSpec)) bigintDividesUptoCard

/-- THE SECOND FORM's CARD OF 'hornbeamlaw01.BigintBits'. -/
def bigintBitsUptoCard : Claim7 := { stood := { row := bigintBitsUptoRow, standIns := [], harness := (true, "36dc6b8bfd7f5635b49cfcbaa9d4953f41b099f446967db39f28c5b805881ca4"), looks := false }, kinds := [], alts := [], laidByText := true, laidKinds := [.data, .pinned], laidTests := true, laidLooks := .later }
def BigintBitsUptoCardSaid : Prop := Claim7.holds Tryd.pinned (.plain (OpenSpec.upto bigintBitsSpec)) bigintBitsUptoCard

/-- THE SECOND FORM's CARD OF 'hornbeamlaw01.BigintPowers'. -/
def bigintPowersUptoCard : Claim7 := { stood := { row := bigintPowersUptoRow, standIns := [], harness := (true, "36dc6b8bfd7f5635b49cfcbaa9d4953f41b099f446967db39f28c5b805881ca4"), looks := false }, kinds := [], alts := [], laidByText := true, laidKinds := [.data, .pinned], laidTests := true, laidLooks := .later }
def BigintPowersUptoCardSaid : Prop := Claim7.holds Tryd.pinned (.plain (OpenSpec.upto bigintPowersSpec)) bigintPowersUptoCard

/-- THE SECOND FORM's CARD OF 'hornbeamlaw01.BigintTexts'. -/
def bigintTextsUptoCard : Claim7 := { stood := { row := bigintTextsUptoRow, standIns := [], harness := (true, "36dc6b8bfd7f5635b49cfcbaa9d4953f41b099f446967db39f28c5b805881ca4"), looks := false }, kinds := [], alts := [], laidByText := true, laidKinds := [.data, .pinned], laidTests := true, laidLooks := .later }
def BigintTextsUptoCardSaid : Prop := Claim7.holds Tryd.pinned (.plain (OpenSpec.upto bigintTextsSpec)) bigintTextsUptoCard

/-- THE SECOND FORM's CARD OF 'hornbeamlaw01.BigintFloats'. -/
def bigintFloatsUptoCard : Claim7 := { stood := { row := bigintFloatsUptoRow, standIns := [], harness := (true, "36dc6b8bfd7f5635b49cfcbaa9d4953f41b099f446967db39f28c5b805881ca4"), looks := false }, kinds := [], alts := [], laidByText := true, laidKinds := [.data, .pinned], laidTests := true, laidLooks := .later }
def BigintFloatsUptoCardSaid : Prop := Claim7.holds Tryd.pinned (.plain (OpenSpec.upto bigintFloatsSpec)) bigintFloatsUptoCard

/-- THE SECOND FORM's CARD OF 'hornbeamlaw01.BigintRings'. -/
def bigintRingsUptoCard : Claim7 := { stood := { row := bigintRingsUptoRow, standIns := [], harness := (true, "36dc6b8bfd7f5635b49cfcbaa9d4953f41b099f446967db39f28c5b805881ca4"), looks := false }, kinds := [], alts := [], laidByText := true, laidKinds := [.data, .pinned], laidTests := true, laidLooks := .later }
def BigintRingsUptoCardSaid : Prop := Claim7.holds Tryd.pinned (.plain (OpenSpec.upto bigintRingsSpec)) bigintRingsUptoCard

/-- THE SECOND FORM's CARD OF 'hornbeamlaw01.BigintParts'. -/
def bigintPartsUptoCard : Claim7 := { stood := { row := bigintPartsUptoRow, standIns := [], harness := (true, "36dc6b8bfd7f5635b49cfcbaa9d4953f41b099f446967db39f28c5b805881ca4"), looks := false }, kinds := [], alts := [], laidByText := true, laidKinds := [.data, .pinned], laidTests := true, laidLooks := .later }
def BigintPartsUptoCardSaid : Prop := Claim7.holds Tryd.pinned (.plain (OpenSpec.upto bigintPartsSpec)) bigintPartsUptoCard

/-- THE SECOND FORM's CARD OF 'hornbeamlaw01.BigintReads'. -/
def bigintReadsUptoCard : Claim7 := { stood := { row := bigintReadsUptoRow, standIns := [], harness := (true, "36dc6b8bfd7f5635b49cfcbaa9d4953f41b099f446967db39f28c5b805881ca4"), looks := false }, kinds := [], alts := [], laidByText := true, laidKinds := [.data, .pinned], laidTests := true, laidLooks := .later }
def BigintReadsUptoCardSaid : Prop := Claim7.holds Tryd.pinned (.plain (OpenSpec.upto bigintReadsSpec)) bigintReadsUptoCard

/-- THE SECOND FORM's CARD OF 'hornbeamlaw01.BigintSets'. -/
def bigintSetsUptoCard : Claim7 := { stood := { row := bigintSetsUptoRow, standIns := [], harness := (true, "36dc6b8bfd7f5635b49cfcbaa9d4953f41b099f446967db39f28c5b805881ca4"), looks := false }, kinds := [], alts := [], laidByText := true, laidKinds := [.data, .pinned], laidTests := true, laidLooks := .later }
def BigintSetsUptoCardSaid : Prop := Claim7.holds Tryd.pinned (.plain (OpenSpec.upto bigintSetsSpec)) bigintSetsUptoCard

/-- THE SECOND FORM's CARD OF 'hornbeamlaw01.BigintShifts'. -/
def bigintShiftsUptoCard : Claim7 := { stood := { row := bigintShiftsUptoRow, standIns := [], harness := (true, "36dc6b8bfd7f5635b49cfcbaa9d4953f41b099f446967db39f28c5b805881ca4"), looks := false }, kinds := [], alts := [], laidByText := true, laidKinds := [.data, .pinned], laidTests := true, laidLooks := .later }
def BigintShiftsUptoCardSaid : Prop := Claim7.holds Tryd.pinned (.plain (OpenSpec.upto bigintShiftsSpec)) bigintShiftsUptoCard

/-- THE SECOND FORM's CARD OF 'hornbeamlaw01.BigintNear'. -/
def bigintNearUptoCard : Claim7 := { stood := { row := bigintNearUptoRow, standIns := [], harness := (true, "36dc6b8bfd7f5635b49cfcbaa9d4953f41b099f446967db39f28c5b805881ca4"), looks := false }, kinds := [], alts := [], laidByText := true, laidKinds := [.data, .pinned], laidTests := true, laidLooks := .later }
def BigintNearUptoCardSaid : Prop := Claim7.holds Tryd.pinned (.plain (OpenSpec.upto bigintNearSpec)) bigintNearUptoCard
end Rows
end Go.Proofs.YtldafoojkimdeaaDoor
