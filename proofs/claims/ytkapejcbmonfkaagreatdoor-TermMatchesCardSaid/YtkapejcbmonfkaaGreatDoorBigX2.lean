/- Walks of the document's answer: digit, Parse. No condition but those that each theorem names. -/
import Derived.Test.YtkapejcbmonfkaaGreatDoorBigGcpm
import Derived.Test.YtkapejcbmonfkaaGreatDoorBigRefcm
import Derived.Test.YtkapejcbmonfkaaGreatDoorBigX3m
namespace Go.Proofs.YtkapejcbmonfkaaGreatDoor
open Go.RowKit Lm

/-- What a digit counts for the document; 99: it is none. -/
def dr (c : Nat) : Nat := if 48 ≤ c ∧ c ≤ 57 then c - 48 else if 97 ≤ c ∧ c ≤ 122 then c - 87 else if 65 ≤ c ∧ c ≤ 90 then c - 55 else 99
theorem dr_lt {c r : Nat} (h : r ≤ 36) : dr c < r ↔ dv c < r := by
  unfold dr dv; split <;> (try split) <;> (try split) <;> omega
theorem dr_dv {c : Nat} (h : dv c < 36) : dr c = dv c := by
  unfold dr dv at *; split <;> (try split) <;> (try split) <;> simp_all
theorem dr_le (c : Nat) : dr c ≤ 99 := by unfold dr; split <;> (try split) <;> (try split) <;> omega

set_option maxRecDepth 100000 in
set_option maxHeartbeats 1000000 in
theorem digitR (c : Nat) (w : World) (h : c < 256) :
    Calls Tryz.prog 147 #[.int .u8 (c : Int)] w fun e w' => e = .returned (.int .i64 (dr c : Int)) ∧ w = w' := by
  rcases (show (48 ≤ c ∧ c ≤ 57) ∨ (97 ≤ c ∧ c ≤ 122) ∨ (65 ≤ c ∧ c ≤ 90) ∨ c < 48 ∨ (57 < c ∧ c < 65) ∨ (90 < c ∧ c < 97) ∨ 122 < c by omega) with ⟨h1, h2⟩ | ⟨h1, h2⟩ | ⟨h1, h2⟩ | h1 | ⟨h1, h2⟩ | ⟨h1, h2⟩ | h1
  all_goals
    have e : ∃ z, dr c = z := ⟨_, rfl⟩
    obtain ⟨z, hz⟩ := e
    have HZ := hid hz
    rw [hz]
    clear hz
    go_enter Tryz.func147, Tryz.ntmps147
    go_wp2
    go_ret
    refine ⟨?_, rfl⟩
    have hz := HZ.out
    unfold dr at hz
    repeat' split at hz
    all_goals first | (exfalso; omega) | exact congrArg (fun z => Ending.returned (.int .i64 z)) (by omega)
end Go.Proofs.YtkapejcbmonfkaaGreatDoor
