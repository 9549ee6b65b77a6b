/- Walk: Compare of any two trees. No condition but those that the theorem names. Variables and Plain of any terms in one form, parts of lists: plain. No condition but those that each theorem names. -/
import Derived.Test.YtkapejcbmonfkaaGreatDoorT41m
import Derived.Test.YtkapejcbmonfkaaGreatDoorT93m
import Derived.Test.YtkapejcbmonfkaaGreatDoorT85m
import Derived.Test.YtkapejcbmonfkaaGreatDoorT87m
import Derived.Test.YtkapejcbmonfkaaGreatDoorT36m
namespace Go.Proofs.YtkapejcbmonfkaaGreatDoor
open Go.RowKit

theorem checks_two {t u : Tm} (dt : AllT DomA t) (du : AllT DomA u) (h : checksErr vName numOk bitsOk [t, u] = 0) : Valid t ∧ Valid u := by
  unfold checksErr checksErr checksErr at h
  by_cases h1 : checkErr vName numOk bitsOk t = 0
  · rw [if_pos h1] at h
    by_cases h2 : checkErr vName numOk bitsOk u = 0
    · exact ⟨⟨dt, h1⟩, ⟨du, h2⟩⟩
    · rw [if_neg h2] at h; exact absurd h h2
  · rw [if_neg h1] at h; exact absurd h h1
end Go.Proofs.YtkapejcbmonfkaaGreatDoor

namespace Go.Proofs.YtkapejcbmonfkaaGreatDoor
open Go.RowKit

theorem AllR.varOk {l : List Tm} (h : AllR DomA l) : AllR VarOk l := by
  have hT : ∀ (d : Nat) (t : Tm), nodes t ≤ d → AllT DomA t → AllT VarOk t := by
    intro d
    induction d with
    | zero => intro t h0; have := nodes_pos t; omega
    | succ d ih =>
      intro t hd ht
      cases t with
      | mk k n u b v l =>
        unfold AllT
        refine ⟨ht.head.var, AllR.mk fun j hj => ?_⟩
        have h9 : nodes ((Tm.mk k n u b v l).args[j]'hj) < nodes (Tm.mk k n u b v l) := nodes_lt hj
        exact ih _ (by have h8 : (Tm.mk k n u b v l).args[j]'hj = l[j] := rfl
                       rw [h8] at h9; omega) (ht.arg j hj)
  exact AllR.mk fun k hk => hT _ _ (Nat.le_refl _) (h.get k hk)
end Go.Proofs.YtkapejcbmonfkaaGreatDoor
