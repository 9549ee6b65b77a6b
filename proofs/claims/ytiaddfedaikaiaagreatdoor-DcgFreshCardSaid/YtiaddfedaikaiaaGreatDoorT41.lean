/- Walks: standard and Compare of any two trees that may be; the document's Checks. No condition but those that each theorem names. -/
import Derived.Deep.RegionHeld3
import Derived.Test.YtiaddfedaikaiaaGreatDoorT38qm
namespace Go.Proofs.YtiaddfedaikaiaaGreatDoor
open Go.RowKit

/-- A tree that Check finds nothing wrong with. -/
def Valid (t : Tm) : Prop := AllT DomA t ∧ checkErr vName numOk bitsOk t = 0
theorem Valid.good {t : Tm} (h : Valid t) : Good t := ⟨h.1, by
  have := h.2
  unfold checkErr at this
  split at this
  · cases this
  · exact this⟩
end Go.Proofs.YtiaddfedaikaiaaGreatDoor
