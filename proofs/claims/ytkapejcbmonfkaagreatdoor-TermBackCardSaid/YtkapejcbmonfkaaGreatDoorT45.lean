/- Walk: Compare of any two trees. No condition but those that the theorem names. -/
import Derived.Test.YtkapejcbmonfkaaGreatDoorT41m
namespace Go.Proofs.YtkapejcbmonfkaaGreatDoor
open Go.RowKit

theorem checks_two {t u : Tm} (dt : AllT DomA t) (du : AllT DomA u) (h : checksErr vName numOk bitsOk [t, u] = 0) : Valid t ∧ Valid u := by
  unfold checksErr checksErr checksErr at h
  by_cases h1 : checkErr vName numOk bitsOk t = 0
  · rw [if_pos h1] at h
    by_cases h2 : checkErr vName numOk bitsOk u = 0
    · exact ⟨⟨dt, h1⟩, ⟨du, h2⟩⟩
    · rw [if_neg h2] at h; exact absurd h h2
  · rw [if_neg h1] at h; exact absurd h h1
end Go.Proofs.YtkapejcbmonfkaaGreatDoor
