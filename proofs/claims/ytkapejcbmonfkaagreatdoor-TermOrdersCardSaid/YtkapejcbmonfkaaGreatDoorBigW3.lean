/- Walks: limbs from a word, sums. -/
import Derived.Test.YtkapejcbmonfkaaGreatDoorBigW2
namespace Go.Proofs.YtkapejcbmonfkaaGreatDoor
open Go.RowKit Lm

end Go.Proofs.YtkapejcbmonfkaaGreatDoor
