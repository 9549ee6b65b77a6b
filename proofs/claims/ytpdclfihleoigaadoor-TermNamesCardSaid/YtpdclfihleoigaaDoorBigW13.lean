/- Walks: product. -/
import Derived.Test.YtpdclfihleoigaaDoorBigW3
namespace Go.Proofs.YtpdclfihleoigaaDoor
open Go.RowKit Lm

theorem set_mid (N R : List Nat) (k x : Nat) (hN : N.length = k) (hk : k < R.length) : (N ++ R.drop k).set k x = (N ++ [x]) ++ R.drop (k + 1) := by
  rw [List.set_append_right _ _ (by omega), hN, Nat.sub_self, List.drop_eq_getElem_cons hk, List.set_cons_zero, List.append_assoc]
  rfl
theorem dg_mid (N R : List Nat) (k : Nat) (hN : N.length = k) : dg (N ++ R.drop k) k = dg R k := by
  rw [dg_append_right _ _ _ (by omega), hN, Nat.sub_self, dg_drop]; rfl
theorem len_mid (N R : List Nat) (k : Nat) (hN : N.length = k) (hk : k ≤ R.length) : (N ++ R.drop k).length = R.length := by
  rw [List.length_append, List.length_drop]; omega

/-- One step of the inner loop: e is the power of the outer place. -/
theorem mul_inner {pe pj c x y r o c' s t q : Nat} (h : s + pe * pj * c = t + x * pe * q) (he : c + (x * y + r) = o + 4294967296 * c') :
    (s + pe * pj * o) + pe * (pj * 4294967296) * c' = (t + pe * pj * r) + x * pe * (q + pj * y) := by grind

end Go.Proofs.YtpdclfihleoigaaDoor
