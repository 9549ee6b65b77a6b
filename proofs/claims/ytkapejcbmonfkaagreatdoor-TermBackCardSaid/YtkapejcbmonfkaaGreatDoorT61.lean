/- Walks of the document's answer: List. No condition but those that each theorem names. -/
import Derived.Test.YtkapejcbmonfkaaGreatDoorT56m
namespace Go.Proofs.YtkapejcbmonfkaaGreatDoor
open Go.RowKit

/-- How many nodes a list has. -/
def tot (l : List Tm) (e : Tm) (k : Nat) : Nat := nodes e + (k + nodesL (l.take k))
theorem tot_zero (l : List Tm) (e : Tm) : tot l e 0 = nodes e := by unfold tot; simp [nodesL]
theorem tot_succ (l : List Tm) (e : Tm) (k : Nat) (h : k < l.length) : tot l e (k + 1) = tot l e k + 1 + nodes l[k] := by
  unfold tot
  rw [nodesL_take l k h]
  omega
theorem tot_mono (l : List Tm) (e : Tm) {j k : Nat} (h : j ≤ k) : tot l e j ≤ tot l e k := by
  unfold tot
  have : nodesL (l.take j) ≤ nodesL (l.take k) := by
    have h1 := nodesL_take_le (l.take k) j
    rw [List.take_take, Nat.min_eq_left h] at h1
    exact h1
  omega
theorem capped_cases (n : Nat) : (n ≤ 4000 ∧ capped n 4001 = (n : Int)) ∨ (4000 < n ∧ capped n 4001 = 4001) := by
  unfold capped
  by_cases h : n ≤ 4000
  · exact .inl ⟨h, by rw [if_pos (by omega)]⟩
  · right
    refine ⟨by omega, ?_⟩
    by_cases h2 : (n : Int) ≤ 4001
    · rw [if_pos h2]; omega
    · rw [if_neg h2]
/-- What is wrong with a list's parts. -/
def listErr (l : List Tm) (e : Tm) : Int := if checksErr vName numOk bitsOk l = 0 then (if checkErr vName numOk bitsOk e = 0 then (if 4000 < tot l e l.length then 24 else 0) else checkErr vName numOk bitsOk e) else checksErr vName numOk bitsOk l
end Go.Proofs.YtkapejcbmonfkaaGreatDoor
