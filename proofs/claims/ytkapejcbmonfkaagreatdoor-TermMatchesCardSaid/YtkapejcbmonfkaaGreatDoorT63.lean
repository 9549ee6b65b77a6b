/- Walk: List of the program, where nothing is wrong. No condition but those that each theorem names. -/
import Derived.Test.YtkapejcbmonfkaaGreatDoorT61
import Derived.Test.YtkapejcbmonfkaaGreatDoorT62
namespace Go.Proofs.YtkapejcbmonfkaaGreatDoor
open Go.RowKit Go.Shelf

mutual
theorem MineT.isCells {w : World} : ∀ {t : Tm} {p : Option Addr} {cap : Nat} {S : List Nat}, MineT w t p cap S → ∀ k ∈ S, ∃ arr, w.heap[k]? = some (.cells arr 25 (0, 0))
  | .mk _ _ _ _ _ l, p, cap, S, h => by
    unfold MineT at h
    rcases h.2 with ⟨_, _, _, rfl⟩ | ⟨b, arr, S', rfl, rfl, h1, h2, h3, h4, h5⟩
    · intro k hk; cases hk
    · intro k hk
      rcases List.mem_cons.1 hk with rfl | hk
      · exact ⟨arr, h1⟩
      · exact MineR.isCells h5 k hk
theorem MineR.isCells {w : World} : ∀ {l : List Tm} {b o : Nat} {S : List Nat}, MineR w l b o S → ∀ k ∈ S, ∃ arr, w.heap[k]? = some (.cells arr 25 (0, 0))
  | [], _, _, _, h => by unfold MineR at h; subst h; intro k hk; cases hk
  | t :: l, b, o, S, h => by
    unfold MineR at h
    obtain ⟨p, cap, S1, S2, rfl, hd, h1, h2, h3⟩ := h
    intro k hk
    rcases List.mem_append.1 hk with hk | hk
    · exact MineT.isCells h2 k hk
    · exact MineR.isCells h3 k hk
end
end Go.Proofs.YtkapejcbmonfkaaGreatDoor
