/- Variables and Plain of any terms in one form, parts of lists: plain. No condition but those that each theorem names. -/
import Derived.Deep.RegionHeld3
import Derived.Test.YtiaddfedaikaiaaGreatDoorT93m
import Derived.Test.YtiaddfedaikaiaaGreatDoorT84m
import Derived.Test.YtiaddfedaikaiaaGreatDoorT36m
namespace Go.Proofs.YtiaddfedaikaiaaGreatDoor
open Go.RowKit

theorem AllR.varOk {l : List Tm} (h : AllR DomA l) : AllR VarOk l := by
  have hT : ∀ (d : Nat) (t : Tm), nodes t ≤ d → AllT DomA t → AllT VarOk t := by
    intro d
    induction d with
    | zero => intro t h0; have := nodes_pos t; omega
    | succ d ih =>
      intro t hd ht
      cases t with
      | mk k n u b v l =>
        unfold AllT
        refine ⟨ht.head.var, AllR.mk fun j hj => ?_⟩
        have h9 : nodes ((Tm.mk k n u b v l).args[j]'hj) < nodes (Tm.mk k n u b v l) := nodes_lt hj
        exact ih _ (by have h8 : (Tm.mk k n u b v l).args[j]'hj = l[j] := rfl
                       rw [h8] at h9; omega) (ht.arg j hj)
  exact AllR.mk fun k hk => hT _ _ (Nat.le_refl _) (h.get k hk)
end Go.Proofs.YtiaddfedaikaiaaGreatDoor
