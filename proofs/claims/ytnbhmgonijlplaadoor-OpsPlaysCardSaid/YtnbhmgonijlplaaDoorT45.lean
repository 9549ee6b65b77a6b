/- pick: which of three a raw number speaks of. No condition but that the number is one of 64 bits. -/
import Derived.Test.YtnbhmgonijlplaaDoorT2
namespace Go.Proofs.YtnbhmgonijlplaaDoor
open Go.RowKit

def pk (c : Int) : Nat := (if c < 0 then -(c + 1) else c).toNat % 3
theorem pk_lt (c : Int) : pk c < 3 := Nat.mod_lt _ (by decide)
set_option maxRecDepth 100000 in
set_option maxHeartbeats 1000000 in
theorem pick_any (c : Int) (h1 : -9223372036854775808 ≤ c) (h2 : c ≤ 9223372036854775807) (w : World) : Calls Tryd.prog 13 #[.int .i64 c, .int .i64 3] w fun e w' => e = .returned (.int .i64 (pk c : Nat)) ∧ w = w' := by
  by_cases h : c < 0
  · obtain ⟨d, hd⟩ : ∃ d : Nat, c = -(d : Int) - 1 := ⟨(-(c + 1)).toNat, by omega⟩
    subst hd
    have hp : ((pk (-(d : Int) - 1) : Nat) : Int) = (d : Int) % 3 := by
      unfold pk
      rw [if_pos h]
      omega
    have HP := hid hp
    clear hp
    go_enter Tryd.func13, Tryd.ntmps13
    go_wp2
    go_ret
    exact ⟨by rw [HP.out]; rfl, rfl⟩
  · obtain ⟨d, rfl⟩ : ∃ d : Nat, c = (d : Int) := ⟨c.toNat, by omega⟩
    have hp : ((pk (d : Int) : Nat) : Int) = (d : Int) % 3 := by
      unfold pk
      rw [if_neg h]
      omega
    have HP := hid hp
    clear hp
    go_enter Tryd.func13, Tryd.ntmps13
    go_wp2
    go_ret
    exact ⟨by rw [HP.out]; rfl, rfl⟩
end Go.Proofs.YtnbhmgonijlplaaDoor
