/- Walks: comparing two lists of limbs. -/
import Derived.Test.YtkapejcbmonfkaaGreatDoorBigW3
import Derived.Deep.QuietTactic
import Derived.BigQuiet
namespace Go.Proofs.YtkapejcbmonfkaaGreatDoor
open Go.RowKit Lm

theorem drew2 (w : World) (a b : Nat) : ∃ q, (w.drewN a).drewN b = w.drewN q := ⟨a + b, World.drewN_drewN _ _ _⟩
theorem drew3 (w : World) (a b c : Nat) : ∃ q, ((w.drewN a).drewN b).drewN c = w.drewN q := ⟨a + b + c, by rw [World.drewN_drewN, World.drewN_drewN, Nat.add_assoc]⟩

end Go.Proofs.YtkapejcbmonfkaaGreatDoor
