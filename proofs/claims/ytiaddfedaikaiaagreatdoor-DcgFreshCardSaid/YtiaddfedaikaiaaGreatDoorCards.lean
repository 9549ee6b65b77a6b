/-
  DERIVED. GIVEN WITH THE SEED: THE CARDS: each row of YtiaddfedaikaiaaGreatDoorRows.lean that lists a variable, with what it lists TIED to the program's text (the seventh form; the later family's looks); each row that meets fmt, with fmt's text TOLD by the authors' own Lean function (tested against real Go, not proved from fmt's source: count such statements apart). THE CARD IS WHAT COUNTS. Prove the row's statement (the work); the ties are given (YtiaddfedaikaiaaGreatDoorTie.lean); close each card by the builder's one call (the guide's Derived/Test/ToyasCard.lean, 'card_holds'). Laid BY PROGRAM, IN A SANDBOX (cutbox-door.mjs). By AI agents, Wed Nov 11 2026. No macro, syntax, notation, axiom, sorry.
-/
import Derived.Test.YtiaddfedaikaiaaGreatDoorRows
import GoSem.ClaimSeven
namespace Go.Proofs.YtiaddfedaikaiaaGreatDoor
namespace Rows

/-- THE TIED CARD OF 'hornbeamlaw10.DcgRules'. -/
def dcgRulesCard : Claim7 := { stood := { row := dcgRulesRow, standIns := [], harness := (true, "4ca9f0c7ce46dbb05be240dc0f0c4a9202b6a099c6c32a67799204604dd99454"), looks := true }, kinds := [], alts := [], laidByText := true, laidKinds := [.data, .pinned], laidTests := true, laidLooks := .later }
def DcgRulesCardSaid : Prop := Claim7.holds Tryz.pinned (.plain (OpenSpec.ofChange dcgRulesSpec)) dcgRulesCard

/-- THE TIED CARD OF 'hornbeamlaw10.DcgBodies'. -/
def dcgBodiesCard : Claim7 := { stood := { row := dcgBodiesRow, standIns := [], harness := (true, "4ca9f0c7ce46dbb05be240dc0f0c4a9202b6a099c6c32a67799204604dd99454"), looks := true }, kinds := [], alts := [], laidByText := true, laidKinds := [.data, .pinned], laidTests := true, laidLooks := .later }
def DcgBodiesCardSaid : Prop := Claim7.holds Tryz.pinned (.plain (OpenSpec.ofChange dcgBodiesSpec)) dcgBodiesCard

/-- THE TIED CARD OF 'hornbeamlaw10.DcgLists'. -/
def dcgListsCard : Claim7 := { stood := { row := dcgListsRow, standIns := [], harness := (true, "4ca9f0c7ce46dbb05be240dc0f0c4a9202b6a099c6c32a67799204604dd99454"), looks := true }, kinds := [], alts := [], laidByText := true, laidKinds := [.data, .pinned], laidTests := true, laidLooks := .later }
def DcgListsCardSaid : Prop := Claim7.holds Tryz.pinned (.plain (OpenSpec.ofChange dcgListsSpec)) dcgListsCard

/-- THE TIED CARD OF 'hornbeamlaw10.DcgFresh'. -/
def dcgFreshCard : Claim7 := { stood := { row := dcgFreshRow, standIns := [], harness := (true, "4ca9f0c7ce46dbb05be240dc0f0c4a9202b6a099c6c32a67799204604dd99454"), looks := true }, kinds := [], alts := [], laidByText := true, laidKinds := [.data, .pinned], laidTests := true, laidLooks := .later }
def DcgFreshCardSaid : Prop := Claim7.holds Tryz.pinned (.plain (OpenSpec.ofChange dcgFreshSpec)) dcgFreshCard

/-- THE TIED CARD OF 'hornbeamlaw11.ClauseNames'. -/
def clauseNamesCard : Claim7 := { stood := { row := clauseNamesRow, standIns := [], harness := (true, "4ca9f0c7ce46dbb05be240dc0f0c4a9202b6a099c6c32a67799204604dd99454"), looks := true }, kinds := [], alts := [], laidByText := true, laidKinds := [.data, .pinned], laidTests := true, laidLooks := .later }
def ClauseNamesCardSaid : Prop := Claim7.holds Tryz.pinned (.plain (OpenSpec.ofChange clauseNamesSpec)) clauseNamesCard

/-- THE TIED CARD OF 'hornbeamlaw11.ClauseReadies'. -/
def clauseReadiesCard : Claim7 := { stood := { row := clauseReadiesRow, standIns := [], harness := (true, "4ca9f0c7ce46dbb05be240dc0f0c4a9202b6a099c6c32a67799204604dd99454"), looks := true }, kinds := [], alts := [], laidByText := true, laidKinds := [.data, .pinned], laidTests := true, laidLooks := .later }
def ClauseReadiesCardSaid : Prop := Claim7.holds Tryz.pinned (.plain (OpenSpec.ofChange clauseReadiesSpec)) clauseReadiesCard

/-- THE TIED CARD OF 'hornbeamlaw11.ClauseReads'. -/
def clauseReadsCard : Claim7 := { stood := { row := clauseReadsRow, standIns := [], harness := (true, "4ca9f0c7ce46dbb05be240dc0f0c4a9202b6a099c6c32a67799204604dd99454"), looks := true }, kinds := [], alts := [], laidByText := true, laidKinds := [.data, .pinned], laidTests := true, laidLooks := .later }
def ClauseReadsCardSaid : Prop := Claim7.holds Tryz.pinned (.plain (OpenSpec.ofChange clauseReadsSpec)) clauseReadsCard

/-- THE TIED CARD OF 'hornbeamlaw11.ClauseTells'. -/
def clauseTellsCard : Claim7 := { stood := { row := clauseTellsRow, standIns := [], harness := (true, "4ca9f0c7ce46dbb05be240dc0f0c4a9202b6a099c6c32a67799204604dd99454"), looks := true }, kinds := [], alts := [], laidByText := true, laidKinds := [.data, .pinned], laidTests := true, laidLooks := .later }
def ClauseTellsCardSaid : Prop := Claim7.holds Tryz.pinned (.plain (OpenSpec.ofChange clauseTellsSpec)) clauseTellsCard

/-- THE TIED CARD OF 'hornbeamlaw11.ClauseBack'. -/
def clauseBackCard : Claim7 := { stood := { row := clauseBackRow, standIns := [], harness := (true, "4ca9f0c7ce46dbb05be240dc0f0c4a9202b6a099c6c32a67799204604dd99454"), looks := true }, kinds := [], alts := [], laidByText := true, laidKinds := [.data, .pinned], laidTests := true, laidLooks := .later }
def ClauseBackCardSaid : Prop := Claim7.holds Tryz.pinned (.plain (OpenSpec.ofChange clauseBackSpec)) clauseBackCard

/-- THE SECOND FORM's CARD OF 'hornbeamlaw10.DcgRules'. -/
def dcgRulesUptoCard : Claim7 := { stood := { row := dcgRulesUptoRow, standIns := [], harness := (true, "4ca9f0c7ce46dbb05be240dc0f0c4a9202b6a099c6c32a67799204604dd99454"), looks := true }, kinds := [], alts := [], laidByText := true, laidKinds := [.data, .pinned], laidTests := true, laidLooks := .later }
def DcgRulesUptoCardSaid : Prop := Claim7.holds Tryz.pinned (.plain (OpenSpec.upto dcgRulesSpec)) dcgRulesUptoCard

/-- THE SECOND FORM's CARD OF 'hornbeamlaw10.DcgBodies'. -/
def dcgBodiesUptoCard : Claim7 := { stood := { row := dcgBodiesUptoRow, standIns := [], harness := (true, "4ca9f0c7ce46dbb05be240dc0f0c4a9202b6a099c6c32a67799204604dd99454"), looks := true }, kinds := [], alts := [], laidByText := true, laidKinds := [.data, .pinned], laidTests := true, laidLooks := .later }
def DcgBodiesUptoCardSaid : Prop := Claim7.holds Tryz.pinned (.plain (OpenSpec.upto dcgBodiesSpec)) dcgBodiesUptoCard

/-- THE SECOND FORM's CARD OF 'hornbeamlaw10.DcgLists'. -/
def dcgListsUptoCard : Claim7 := { stood := { row := dcgListsUptoRow, standIns := [], harness := (true, "4ca9f0c7ce46dbb05be240dc0f0c4a9202b6a099c6c32a67799204604dd99454"), looks := true }, kinds := [], alts := [], laidByText := true, laidKinds := [.data, .pinned], laidTests := true, laidLooks := .later }
def DcgListsUptoCardSaid : Prop := Claim7.holds Tryz.pinned (.plain (OpenSpec.upto dcgListsSpec)) dcgListsUptoCard

/-- THE SECOND FORM's CARD OF 'hornbeamlaw10.DcgFresh'. -/
def dcgFreshUptoCard : Claim7 := { stood := { row := dcgFreshUptoRow, standIns := [], harness := (true, "4ca9f0c7ce46dbb05be240dc0f0c4a9202b6a099c6c32a67799204604dd99454"), looks := true }, kinds := [], alts := [], laidByText := true, laidKinds := [.data, .pinned], laidTests := true, laidLooks := .later }
def DcgFreshUptoCardSaid : Prop := Claim7.holds Tryz.pinned (.plain (OpenSpec.upto dcgFreshSpec)) dcgFreshUptoCard

/-- THE SECOND FORM's CARD OF 'hornbeamlaw11.ClauseNames'. -/
def clauseNamesUptoCard : Claim7 := { stood := { row := clauseNamesUptoRow, standIns := [], harness := (true, "4ca9f0c7ce46dbb05be240dc0f0c4a9202b6a099c6c32a67799204604dd99454"), looks := true }, kinds := [], alts := [], laidByText := true, laidKinds := [.data, .pinned], laidTests := true, laidLooks := .later }
def ClauseNamesUptoCardSaid : Prop := Claim7.holds Tryz.pinned (.plain (OpenSpec.upto clauseNamesSpec)) clauseNamesUptoCard

/-- THE SECOND FORM's CARD OF 'hornbeamlaw11.ClauseReadies'. -/
def clauseReadiesUptoCard : Claim7 := { stood := { row := clauseReadiesUptoRow, standIns := [], harness := (true, "4ca9f0c7ce46dbb05be240dc0f0c4a9202b6a099c6c32a67799204604dd99454"), looks := true }, kinds := [], alts := [], laidByText := true, laidKinds := [.data, .pinned], laidTests := true, laidLooks := .later }
def ClauseReadiesUptoCardSaid : Prop := Claim7.holds Tryz.pinned (.plain (OpenSpec.upto clauseReadiesSpec)) clauseReadiesUptoCard

/-- THE SECOND FORM's CARD OF 'hornbeamlaw11.ClauseReads'. -/
def clauseReadsUptoCard : Claim7 := { stood := { row := clauseReadsUptoRow, standIns := [], harness := (true, "4ca9f0c7ce46dbb05be240dc0f0c4a9202b6a099c6c32a67799204604dd99454"), looks := true }, kinds := [], alts := [], laidByText := true, laidKinds := [.data, .pinned], laidTests := true, laidLooks := .later }
def ClauseReadsUptoCardSaid : Prop := Claim7.holds Tryz.pinned (.plain (OpenSpec.upto clauseReadsSpec)) clauseReadsUptoCard

/-- THE SECOND FORM's CARD OF 'hornbeamlaw11.ClauseTells'. -/
def clauseTellsUptoCard : Claim7 := { stood := { row := clauseTellsUptoRow, standIns := [], harness := (true, "4ca9f0c7ce46dbb05be240dc0f0c4a9202b6a099c6c32a67799204604dd99454"), looks := true }, kinds := [], alts := [], laidByText := true, laidKinds := [.data, .pinned], laidTests := true, laidLooks := .later }
def ClauseTellsUptoCardSaid : Prop := Claim7.holds Tryz.pinned (.plain (OpenSpec.upto clauseTellsSpec)) clauseTellsUptoCard

/-- THE SECOND FORM's CARD OF 'hornbeamlaw11.ClauseBack'. -/
def clauseBackUptoCard : Claim7 := { stood := { row := clauseBackUptoRow, standIns := [], harness := (true, "4ca9f0c7ce46dbb05be240dc0f0c4a9202b6a099c6c32a67799204604dd99454"), looks := true }, kinds := [], alts := [], laidByText := true, laidKinds := [.data, .pinned], laidTests := true, laidLooks := .later }
def ClauseBackUptoCardSaid : Prop := Claim7.holds Tryz.pinned (.plain (OpenSpec.upto clauseBackSpec)) clauseBackUptoCard
end Rows
end Go.Proofs.YtiaddfedaikaiaaGreatDoor
