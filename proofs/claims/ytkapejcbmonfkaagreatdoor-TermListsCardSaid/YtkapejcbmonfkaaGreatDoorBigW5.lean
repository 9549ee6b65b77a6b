/- Walks: the difference of two lists of limbs. -/
import Derived.Test.YtkapejcbmonfkaaGreatDoorBigW3
namespace Go.Proofs.YtkapejcbmonfkaaGreatDoor
open Go.RowKit Lm

theorem wrap2 (x bv y : Nat) (_hx : x < 4294967296) (_hb : bv ≤ 1) (_hy : y < 4294967296) :
    IntKind.u64.wrap (IntKind.u64.wrap ((x : Int) - (bv : Int)) - (y : Int)) = ((x : Int) - bv - y) % 18446744073709551616 := by
  rw [IntKind.wrap_u64, IntKind.wrap_u64]; omega
theorem wrap1 (x bv : Nat) : IntKind.u64.wrap ((x : Int) - (bv : Int)) = ((x : Int) - bv) % 18446744073709551616 := by
  rw [IntKind.wrap_u64]

end Go.Proofs.YtkapejcbmonfkaaGreatDoor
