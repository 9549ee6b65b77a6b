/- Plain mathematics: a list of bits divided by a small number, and times one; greatest common divisors by halves and differences. No condition but those that each theorem names. -/
import Derived.Test.YtldafoojkimdeaaDoorBitmm
namespace Lm

/-! ### One bit of a quotient by a small number -/
theorem bdiv_no {r x t : Nat} {B Q : List Nat} {i : Nat} (h : bv (B.drop (i + 1)) = r * bv (Q.drop (i + 1)) + x) (h0 : dg Q i = 0) (ht : t = 2 * x + dg B i) :
    bv (B.drop i) = r * bv (Q.drop i) + t := by
  rw [bv_drop_dg B i, bv_drop_dg Q i, h0, h, ht]; grind
theorem bdiv_yes {r x t : Nat} {B Q : List Nat} {i : Nat} (hi : i < Q.length) (h : bv (B.drop (i + 1)) = r * bv (Q.drop (i + 1)) + x) (ht : t + r = 2 * x + dg B i) :
    bv (B.drop i) = r * bv ((Q.set i 1).drop i) + t := by
  have e : (Q.set i 1).drop (i + 1) = Q.drop (i + 1) := by rw [List.drop_set, if_pos (by omega)]
  have e1 : dg (Q.set i 1) i = 1 := by unfold dg; simp [List.getD, hi]
  rw [bv_drop_dg B i, bv_drop_dg (Q.set i 1) i, e1, e, h]; grind
theorem bdiv_end {r v q x : Nat} (h : v = r * q + x) (hx : x < r) : q = v / r ∧ x = v % r := by
  subst h
  constructor
  · rw [Nat.mul_add_div (by omega), Nat.div_eq_of_lt hx]; omega
  · rw [Nat.mul_add_mod, Nat.mod_eq_of_lt hx]

/-! ### One bit of a product by a small number -/
theorem bmul_step {p s c t o c' r d x : Nat} (h : s + p * c = t * r + d) (he : o + 2 * c' = x * r + c) : (s + p * o) + p * 2 * c' = (t + p * x) * r + d := by grind

/-! ### Greatest common divisors -/
theorem odd_coprime {d : Nat} (hd : d % 2 = 1) : Nat.Coprime d 2 := by
  have h1 : Nat.gcd d 2 ∣ 2 := Nat.gcd_dvd_right _ _
  have h2 : Nat.gcd d 2 ∣ d := Nat.gcd_dvd_left _ _
  have h3 : Nat.gcd d 2 ≤ 2 := Nat.le_of_dvd (by decide) h1
  have h4 : Nat.gcd d 2 ≠ 0 := fun e => by rw [e] at h1; omega
  have h5 : Nat.gcd d 2 ≠ 2 := fun e => by rw [e] at h2; omega
  show Nat.gcd d 2 = 1
  omega
theorem gcd_half {a b d : Nat} (hd : d % 2 = 1) (h : Nat.gcd (2 * a) b = d) : Nat.gcd a b = d := by
  refine Nat.dvd_antisymm ?_ ?_
  · rw [← h]
    exact Nat.dvd_gcd (Nat.dvd_trans (Nat.gcd_dvd_left a b) (Nat.dvd_mul_left a 2)) (Nat.gcd_dvd_right a b)
  · have h1 : d ∣ 2 * a := by rw [← h]; exact Nat.gcd_dvd_left _ _
    have h2 : d ∣ b := by rw [← h]; exact Nat.gcd_dvd_right _ _
    exact Nat.dvd_gcd ((odd_coprime hd).dvd_of_dvd_mul_left h1) h2
theorem gcd_half2 {a b d : Nat} (hd : d % 2 = 1) (h : Nat.gcd a (2 * b) = d) : Nat.gcd a b = d := by
  rw [Nat.gcd_comm] at h ⊢; exact gcd_half hd h
theorem gcd_less {a b c d : Nat} (hc : c + b = a) (h : Nat.gcd a b = d) : Nat.gcd c b = d := by
  have e : c = a - b := by omega
  rw [e, Nat.gcd_sub_self_left (by omega)]; exact h
theorem gcd_twos (t a b : Nat) : Nat.gcd (2 ^ t * a) (2 ^ t * b) = 2 ^ t * Nat.gcd a b := Nat.gcd_mul_left _ _ _
/-- Where one of both is odd their greatest common divisor is. -/
theorem gcd_odd {a b : Nat} (h : a % 2 = 1 ∨ b % 2 = 1) : Nat.gcd a b % 2 = 1 := by
  have h1 := Nat.gcd_dvd_left a b
  have h2 := Nat.gcd_dvd_right a b
  rcases Nat.mod_two_eq_zero_or_one (Nat.gcd a b) with h0 | h0
  · have h3 : 2 ∣ Nat.gcd a b := Nat.dvd_of_mod_eq_zero h0
    have h4 := Nat.dvd_trans h3 h1
    have h5 := Nat.dvd_trans h3 h2
    omega
  · exact h0

theorem bv_head (A : List Nat) : bv A = dg A 0 + 2 * bv (A.drop 1) := by have := bv_drop_dg A 0; simpa using this
theorem top_drop {A : List Nat} (h : Top A) (k : Nat) (hk : k < A.length) : Top (A.drop k) := by
  intro hn
  have : (A.drop k).getLast hn = A.getLast (by intro e; subst e; simp at hk) := by rw [List.getLast_drop]
  rw [this]; exact h _
theorem top_pos {A : List Nat} (h : Top A) (hl : A ≠ []) : bv A ≠ 0 := fun e => hl (btop_zero h e)
/-- A first bit that is nought is not the last. -/
theorem top_even {A : List Nat} (h : Top A) (h0 : dg A 0 = 0) (hl : 0 < A.length) : 1 < A.length := by
  rcases Nat.lt_or_ge 1 A.length with h1 | h1
  · exact h1
  · match A, h, h0, hl, h1 with
    | [x], h, h0, _, _ =>
      have h2 := h (by simp)
      have h3 : x = 0 := h0
      simp [h3] at h2
    | _ :: _ :: _, _, _, _, h1 => simp at h1
theorem bv_parity {A : List Nat} (h : B1 A) : bv A % 2 = dg A 0 := by
  have h1 := bv_head A
  have h2 := h.dg 0
  omega
end Lm
