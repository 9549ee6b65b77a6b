/- A bind's cells: plain. No condition but those that each theorem names. -/
import Derived.Test.YtkapejcbmonfkaaGreatDoorT84m
namespace Go.Proofs.YtkapejcbmonfkaaGreatDoor
open Go.RowKit

theorem infoBnd : (Tryz.prog.info? 47).map (fun i => (i.zero, i.size, i.bytes)) = some (some (.agg #[.int .i64 0, .int .i64 0, .string ⟨#[]⟩, .string ⟨#[]⟩, .int .u64 0, .int .i64 0, .slice none 0 0]), 7, 88) := by kernel_rfl
theorem cellsBnd_one (x : Int × Tm × Option Addr × Nat) : ∀ u ∈ cellsB x, u.oneCell' = true := by
  intro u hu
  rcases List.mem_cons.1 hu with rfl | hu
  · rfl
  · exact cellsT_one _ u hu
end Go.Proofs.YtkapejcbmonfkaaGreatDoor
