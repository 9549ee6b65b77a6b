/- Walks: limbs from a word, sums. -/
import Derived.Test.YtkapejcbmonfkaaGreatDoorBigW2m
namespace Go.Proofs.YtkapejcbmonfkaaGreatDoor
open Go.RowKit Lm

end Go.Proofs.YtkapejcbmonfkaaGreatDoor
