/- Walks of the document's answer: List. No condition but those that each theorem names. -/
import Derived.Test.YtkapejcbmonfkaaGreatDoorT59m
namespace Go.Proofs.YtkapejcbmonfkaaGreatDoor
open Go.RowKit

/-- How many nodes a list has. -/
def tot (l : List Tm) (e : Tm) (k : Nat) : Nat := nodes e + (k + nodesL (l.take k))
end Go.Proofs.YtkapejcbmonfkaaGreatDoor
