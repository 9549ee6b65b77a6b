/- Walk of the document's answer: Put. No condition but those that each theorem names. Put of the program in the form of the document's. No condition but those that each theorem names. -/
import Derived.Test.YtiaddfedaikaiaaGreatDoorT84m
namespace Go.Proofs.YtiaddfedaikaiaaGreatDoor
open Go.RowKit

theorem BindAt.take {w : World} {l : List Bnd} {q : Option Addr} (h : BindAt w l q) (k : Nat) : BindAt w (l.take k) q := fun j hj => by
  have hj' : j < l.length := by simp at hj; omega
  rw [List.getElem_take]
  exact h j hj'
/-- What Put answers of a term that may be. -/
def putD (l : List Bnd) (t : Tm) : Tm × Int := if standE l [] ≠ 0 then (leaf 0 ⟨#[]⟩ ⟨#[]⟩ 0, standE l []) else if 4000 < nodes (instT l t) then (leaf 0 ⟨#[]⟩ ⟨#[]⟩ 0, 24) else (instT l t, 0)
end Go.Proofs.YtiaddfedaikaiaaGreatDoor

namespace Go.Proofs.YtiaddfedaikaiaaGreatDoor
open Go.RowKit

theorem put_any (t : Tm) (p : Option Addr) (cp : Nat) (l : List Bnd) (q : Option Addr) (cl : Nat) (w : World) (ht : TmAt w t p) (hl : BindAt w l q) (hX : Utf w) (hDt : AllT DomA t) (hD : ∀ k (h : k < l.length), AllT DomA l[k].2) (hwf : ∀ k (h : k < l.length), (Lit.int .i64 l[k].1).wf = true) (hlm : l.length ≤ 4398046511104) (h1 : checkErr vName numOk bitsOk t = 0) (hct : AllT CpOk t) (hcl : standE l [] = 0 → ∀ k (h : k < l.length), AllT CpOk l[k].2) :
    Calls Tryz.prog 75 #[t.val p cp, .slice q l.length cl] w fun x w' => ∃ q2 c2 S, x = .returned (.tuple #[(putD l t).1.val q2 c2, .int .i64 (putD l t).2]) ∧ MineT w' (putD l t).1 q2 c2 S ∧ (∀ k ∈ S, w.heap.size ≤ k) ∧ Below w.heap.size w w' := by
  by_cases h2 : standE l [] = 0
  · by_cases h3 : 4000 < nodes (instT l t)
    · have e : putD l t = (leaf 0 ⟨#[]⟩ ⟨#[]⟩ 0, 24) := by unfold putD; rw [if_neg (by simp [h2]), if_pos h3]
      rw [e]
      exact (put_bad3 t p cp l q cl w ht hl hX hDt hD hwf hlm h1 h2 hct (hcl h2) h3).mono fun x w' ⟨a, b⟩ => ⟨none, 0, [], a, leaf_mine _ _ _ _ _, by simp, b⟩
    · have e : putD l t = (instT l t, 0) := by unfold putD; rw [if_neg (by simp [h2]), if_neg h3]
      rw [e]
      exact put_good t p cp l q cl w ht hl hX hDt hD hwf hlm h1 h2 hct (hcl h2) (by omega)
  · have e : putD l t = (leaf 0 ⟨#[]⟩ ⟨#[]⟩ 0, standE l []) := by unfold putD; rw [if_pos h2]
    rw [e]
    exact (put_bad2 t p cp l q cl w ht hl hX hDt hD hwf hlm h1 h2).mono fun x w' ⟨a, b⟩ => ⟨none, 0, [], a, leaf_mine _ _ _ _ _, by simp, b⟩
end Go.Proofs.YtiaddfedaikaiaaGreatDoor
