/-
  DERIVED. GIVEN WITH THE SEED: THE CARDS: each row of YtpdclfihleoigaaDoorRows.lean that lists a variable, with what it lists TIED to the program's text (the seventh form; the later family's looks); each row that meets fmt, with fmt's text TOLD by the authors' own Lean function (tested against real Go, not proved from fmt's source: count such statements apart). THE CARD IS WHAT COUNTS. Prove the row's statement (the work); the ties are given (YtpdclfihleoigaaDoorTie.lean); close each card by the builder's one call (the guide's Derived/Test/ToyasCard.lean, 'card_holds'). Laid BY PROGRAM, IN A SANDBOX (cutbox-door.mjs). By AI agents, Wed Nov 11 2026. No macro, syntax, notation, axiom, sorry.
-/
import Derived.Test.YtpdclfihleoigaaDoorRows
import GoSem.ClaimSeven
namespace Go.Proofs.YtpdclfihleoigaaDoor
namespace Rows

/-- THE TIED CARD OF 'hornbeamlaw02.TermNames'. -/
def termNamesCard : Claim7 := { stood := { row := termNamesRow, standIns := [], harness := (true, "5bfef8442353414d8ea5d7d5fe6dda000b4be79fe203d819213cb6dc28395ba7"), looks := false }, kinds := [], alts := [], laidByText := true, laidKinds := [.data, .pinned], laidTests := true, laidLooks := .later }
def TermNamesCardSaid : Prop := Claim7.holds Tryd.pinned (.plain (OpenSpec.ofChange termNamesSpec)) termNamesCard

/-- THE TIED CARD OF 'hornbeamlaw02.TermChecks'. -/
def termChecksCard : Claim7 := { stood := { row := termChecksRow, standIns := [], harness := (true, "5bfef8442353414d8ea5d7d5fe6dda000b4be79fe203d819213cb6dc28395ba7"), looks := false }, kinds := [], alts := [], laidByText := true, laidKinds := [.data, .pinned], laidTests := true, laidLooks := .later }
def TermChecksCardSaid : Prop := Claim7.holds Tryd.pinned (.plain (OpenSpec.ofChange termChecksSpec)) termChecksCard

/-- THE TIED CARD OF 'hornbeamlaw02.TermOneOrder'. -/
def termOneOrderCard : Claim7 := { stood := { row := termOneOrderRow, standIns := [], harness := (true, "5bfef8442353414d8ea5d7d5fe6dda000b4be79fe203d819213cb6dc28395ba7"), looks := false }, kinds := [], alts := [], laidByText := true, laidKinds := [.data, .pinned], laidTests := true, laidLooks := .later }
def TermOneOrderCardSaid : Prop := Claim7.holds Tryd.pinned (.plain (OpenSpec.ofChange termOneOrderSpec)) termOneOrderCard

/-- THE SECOND FORM's CARD OF 'hornbeamlaw02.TermNames'. -/
def termNamesUptoCard : Claim7 := { stood := { row := termNamesUptoRow, standIns := [], harness := (true, "5bfef8442353414d8ea5d7d5fe6dda000b4be79fe203d819213cb6dc28395ba7"), looks := false }, kinds := [], alts := [], laidByText := true, laidKinds := [.data, .pinned], laidTests := true, laidLooks := .later }
def TermNamesUptoCardSaid : Prop := Claim7.holds Tryd.pinned (.plain (OpenSpec.upto termNamesSpec)) termNamesUptoCard

/-- THE SECOND FORM's CARD OF 'hornbeamlaw02.TermChecks'. -/
def termChecksUptoCard : Claim7 := { stood := { row := termChecksUptoRow, standIns := [], harness := (true, "5bfef8442353414d8ea5d7d5fe6dda000b4be79fe203d819213cb6dc28395ba7"), looks := false }, kinds := [], alts := [], laidByText := true, laidKinds := [.data, .pinned], laidTests := true, laidLooks := .later }
def TermChecksUptoCardSaid : Prop := Claim7.holds Tryd.pinned (.plain (OpenSpec.upto termChecksSpec)) termChecksUptoCard

/-- THE SECOND FORM's CARD OF 'hornbeamlaw02.TermOneOrder'. -/
def termOneOrderUptoCard : Claim7 := { stood := { row := termOneOrderUptoRow, standIns := [], harness := (true, "5bfef8442353414d8ea5d7d5fe6dda000b4be79fe203d819213cb6dc28395ba7"), looks := false }, kinds := [], alts := [], laidByText := true, laidKinds := [.data, .pinned], laidTests := true, laidLooks := .later }
def TermOneOrderUptoCardSaid : Prop := Claim7.holds Tryd.pinned (.plain (OpenSpec.upto termOneOrderSpec)) termOneOrderUptoCard
end Rows
end Go.Proofs.YtpdclfihleoigaaDoor
