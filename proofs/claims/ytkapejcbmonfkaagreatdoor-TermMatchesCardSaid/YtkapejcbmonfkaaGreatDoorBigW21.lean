/- Walks: divide, by one limb; divideBoth. -/
import Derived.Test.YtkapejcbmonfkaaGreatDoorBigW13m
namespace Go.Proofs.YtkapejcbmonfkaaGreatDoor
open Go.RowKit Lm

theorem Rd.nil (w : World) : Rd w none 0 0 [] := ⟨rfl, Ok.nil, Nat.le_refl _, by omega, fun h => by omega⟩

end Go.Proofs.YtkapejcbmonfkaaGreatDoor
