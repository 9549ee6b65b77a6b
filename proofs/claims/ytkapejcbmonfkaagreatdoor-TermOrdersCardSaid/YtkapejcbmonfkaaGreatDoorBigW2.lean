/- Walks of package bigint's smallest functions. -/
import Derived.Test.YtkapejcbmonfkaaGreatDoorBigW1
namespace Go.Proofs.YtkapejcbmonfkaaGreatDoor
open Go.RowKit Lm

theorem or_join (x y : Nat) (hx : x < 4294967296) (hy : y < 4294967296) : bits .or .u64 ((x : Int) * 4294967296) (y : Int) = ((x * 4294967296 + y : Nat) : Int) := by
  have e := u64_or_nat (x * 4294967296) y (by omega) (by omega)
  rw [nat_join 32 (x * 4294967296) y (by simp) (by simpa using hy)] at e
  rw [← e]
  simp

theorem take2_nil (A : List Nat) (k : Nat) (h : A.length ≤ k ∨ 2 ≤ k) : val ((A.take 2).drop k) = 0 := by
  rw [List.drop_eq_nil_of_le (by rw [List.length_take]; omega)]; rfl
theorem take2_step (A : List Nat) (m : Nat) (h : m + 1 ≤ 2) (h2 : m + 1 ≤ A.length) : val ((A.take 2).drop m) = val ((A.take 2).drop (m + 1)) * 4294967296 + dg A m := by
  have e : (A.take 2).drop m = dg A m :: (A.take 2).drop (m + 1) := by
    rw [List.drop_eq_getElem_cons (by rw [List.length_take]; omega)]
    congr 1
    unfold dg
    rw [getD_in _ _ (by omega), List.getElem_take]
  rw [e, val_cons]; omega
theorem take2_lt (A : List Nat) (hA : Ok A) : val (A.take 2) < 18446744073709551616 := by
  have := val_lt (hA.take 2)
  have h2 : P (A.take 2).length ≤ P 2 := P_le (by rw [List.length_take]; omega)
  have e : P 2 = 18446744073709551616 := by decide
  omega

end Go.Proofs.YtkapejcbmonfkaaGreatDoor
