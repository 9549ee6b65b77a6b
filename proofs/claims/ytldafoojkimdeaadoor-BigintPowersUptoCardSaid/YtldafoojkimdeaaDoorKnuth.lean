/- Plain mathematics: how one limb of a quotient is guessed from the highest limbs (after Knuth). -/
import Derived.Test.YtldafoojkimdeaaDoorLimbs
namespace Lm

/-- The highest limbs of what is divided (X) and of the divisor (Y): p is the power of the place below them. -/
structure Kn (X Y p r0 r1 r2 d1 d2 : Nat) : Prop where
  hp : 0 < p
  x : p * ((r0 * 4294967296 + r1) * 4294967296 + r2) ≤ X
  x' : X < p * ((r0 * 4294967296 + r1) * 4294967296 + r2 + 1)
  y : p * (d1 * 4294967296 + d2) ≤ Y
  y' : Y < p * (d1 * 4294967296 + d2 + 1)
  lt : X < Y * 4294967296
  high : 2147483648 ≤ d1
  b1 : r1 < 4294967296
  b2 : r2 < 4294967296
  e1 : d1 < 4294967296
  e2 : d2 < 4294967296

variable {X Y p r0 r1 r2 d1 d2 : Nat}

theorem Kn.pos (h : Kn X Y p r0 r1 r2 d1 d2) : 0 < Y := by
  have h1 := h.y
  have h2 : 0 < p * (d1 * 4294967296 + d2) := Nat.mul_pos h.hp (by have := h.high; omega)
  omega

/-- The quotient times the divisor's two highest limbs is at most the three highest limbs. -/
theorem Kn.two (h : Kn X Y p r0 r1 r2 d1 d2) : X / Y * (d1 * 4294967296 + d2) ≤ (r0 * 4294967296 + r1) * 4294967296 + r2 := by
  have h1 : X / Y * Y ≤ X := Nat.div_mul_le_self X Y
  have h2 : X / Y * (p * (d1 * 4294967296 + d2)) ≤ X / Y * Y := Nat.mul_le_mul_left _ h.y
  have h3 := h.x'
  have h4 : p * (X / Y * (d1 * 4294967296 + d2)) < p * ((r0 * 4294967296 + r1) * 4294967296 + r2 + 1) := by
    have e : X / Y * (p * (d1 * 4294967296 + d2)) = p * (X / Y * (d1 * 4294967296 + d2)) := Nat.mul_left_comm _ _ _
    omega
  have := Nat.lt_of_mul_lt_mul_left h4
  omega

theorem Kn.one (h : Kn X Y p r0 r1 r2 d1 d2) : X / Y * d1 ≤ r0 * 4294967296 + r1 := by
  have h1 := h.two
  have h2 := h.b2
  have e : X / Y * (d1 * 4294967296 + d2) = X / Y * d1 * 4294967296 + X / Y * d2 := by rw [Nat.mul_add, Nat.mul_assoc]
  omega

theorem Kn.small (h : Kn X Y p r0 r1 r2 d1 d2) : X / Y < 4294967296 := by
  rw [Nat.div_lt_iff_lt_mul h.pos, Nat.mul_comm]; exact h.lt

theorem Kn.first (h : Kn X Y p r0 r1 r2 d1 d2) : X / Y ≤ (r0 * 4294967296 + r1) / d1 := by
  rw [Nat.le_div_iff_mul_le (by have := h.high; omega)]
  exact h.one

theorem Kn.top (h : Kn X Y p r0 r1 r2 d1 d2) : r0 * 4294967296 + r1 ≤ d1 * 4294967296 + d2 := by
  have h1 : p * ((r0 * 4294967296 + r1) * 4294967296 + r2) < p * ((d1 * 4294967296 + d2 + 1) * 4294967296) := by
    have a := h.x
    have b := h.lt
    have c := Nat.mul_lt_mul_of_pos_right h.y' (show 0 < 4294967296 by decide)
    rw [Nat.mul_assoc] at c
    omega
  have := Nat.lt_of_mul_lt_mul_left h1
  omega

theorem Kn.first_le (h : Kn X Y p r0 r1 r2 d1 d2) : (r0 * 4294967296 + r1) / d1 ≤ 4294967297 := by
  have h1 := h.top
  have h2 := h.high
  have h3 := h.e2
  have h4 : (r0 * 4294967296 + r1) / d1 < 4294967298 := (Nat.div_lt_iff_lt_mul (by omega)).2 (by omega)
  omega

/-- A guess that fails the test is too great. -/
theorem Kn.less (h : Kn X Y p r0 r1 r2 d1 d2) {t s : Nat} (ht : t * d1 + s = r0 * 4294967296 + r1) (hc : s * 4294967296 + r2 < t * d2) : X / Y < t := by
  have h1 := h.two
  have h2 : (r0 * 4294967296 + r1) * 4294967296 + r2 < t * (d1 * 4294967296 + d2) := by
    have e : t * (d1 * 4294967296 + d2) = t * d1 * 4294967296 + t * d2 := by rw [Nat.mul_add, Nat.mul_assoc]
    rw [e, ← ht, Nat.add_mul, Nat.add_assoc]
    exact Nat.add_lt_add_left hc _
  exact Nat.lt_of_mul_lt_mul_right (a := d1 * 4294967296 + d2) (by omega)

/-- A guess that passes it is at most once too great. -/
theorem Kn.most (h : Kn X Y p r0 r1 r2 d1 d2) {t s : Nat} (ht : t * d1 + s = r0 * 4294967296 + r1) (hc : t * d2 ≤ s * 4294967296 + r2) (hb : t ≤ 4294967296) : t ≤ X / Y + 1 := by
  have h2 : t * (d1 * 4294967296 + d2) ≤ (r0 * 4294967296 + r1) * 4294967296 + r2 := by
    have e : t * (d1 * 4294967296 + d2) = t * d1 * 4294967296 + t * d2 := by rw [Nat.mul_add, Nat.mul_assoc]
    rw [e, ← ht, Nat.add_mul, Nat.add_assoc]
    exact Nat.add_le_add_left hc _
  have h3 : t * Y ≤ t * (p * (d1 * 4294967296 + d2 + 1)) := Nat.mul_le_mul_left _ (Nat.le_of_lt h.y')
  have e3 : t * (p * (d1 * 4294967296 + d2 + 1)) = p * (t * (d1 * 4294967296 + d2)) + p * t := by
    rw [Nat.mul_left_comm, Nat.mul_add t, Nat.mul_one, Nat.mul_add]
  have h4 : p * (t * (d1 * 4294967296 + d2)) ≤ p * ((r0 * 4294967296 + r1) * 4294967296 + r2) := Nat.mul_le_mul_left _ h2
  have h5 : p * t ≤ p * (d1 * 4294967296 + d2) := Nat.mul_le_mul_left _ (by have := h.high; omega)
  have h6 : t * Y ≤ X + Y := by
    have a := h.x
    have b := h.y
    omega
  have h7 : X < (X / Y + 1) * Y := by
    have := Nat.lt_div_mul_add h.pos (a := X)
    rw [Nat.add_mul, Nat.one_mul]; exact this
  have h8 : t * Y < (X / Y + 2) * Y := by
    have e : (X / Y + 2) * Y = (X / Y + 1) * Y + Y := by rw [Nat.add_mul, Nat.add_mul]; omega
    omega
  have := Nat.lt_of_mul_lt_mul_right h8
  omega

/-- Where the rest passes the base the guess passes too. -/
theorem Kn.broke (h : Kn X Y p r0 r1 r2 d1 d2) {t s : Nat} (ht : t * d1 + s = r0 * 4294967296 + r1) (hs : 4294967296 ≤ s) (hb : t < 4294967296) : t ≤ X / Y + 1 := by
  refine h.most ht ?_ (by omega)
  have h1 : t * d2 ≤ 4294967296 * 4294967296 := Nat.mul_le_mul (by omega) (by have := h.e2; omega)
  have h2 : 4294967296 * 4294967296 ≤ s * 4294967296 := Nat.mul_le_mul_right _ hs
  omega

/-- Behind the greatest first guess the rest does not pass the base. -/
theorem Kn.great (h : Kn X Y p r0 r1 r2 d1 d2) {s : Nat} (ht : 4294967297 * d1 + s = r0 * 4294967296 + r1) : s + d1 < 4294967296 := by
  have h1 := h.top
  have h2 := h.e2
  omega

theorem Kn.of_limbs {R D : List Nat} {m : Nat} (hR : R.length = m + 3) (hD : D.length = m + 2) (oR : Ok R) (oD : Ok D) (hh : 2147483648 ≤ dg D (m + 1)) (hlt : val R < val D * 4294967296) :
    Kn (val R) (val D) (P m) (dg R (m + 2)) (dg R (m + 1)) (dg R m) (dg D (m + 1)) (dg D m) := by
  have r3 : R.take (m + 3) = R := List.take_of_length_le (by omega)
  have d3 : D.take (m + 2) = D := List.take_of_length_le (by omega)
  have s1 := val_take_dg R (m + 2) (by omega)
  have s2 := val_take_dg R (m + 1) (by omega)
  have s3 := val_take_dg R m (by omega)
  have u1 := val_take_dg D (m + 1) (by omega)
  have u2 := val_take_dg D m (by omega)
  have l1 := val_lt (oR.take m)
  have l2 := val_lt (oD.take m)
  rw [List.length_take, Nat.min_eq_left (by omega)] at l1 l2
  rw [r3] at s1
  rw [d3] at u1
  rw [P_succ, P_succ] at s1
  rw [P_succ] at s2 u1
  have eX : val R = val (R.take m) + P m * ((dg R (m + 2) * 4294967296 + dg R (m + 1)) * 4294967296 + dg R m) := by rw [s1, s2, s3]; grind
  have eY : val D = val (D.take m) + P m * (dg D (m + 1) * 4294967296 + dg D m) := by rw [u1, u2]; grind
  refine ⟨P_pos m, by omega, ?_, by omega, ?_, hlt, hh, oR.dg _, oR.dg _, oD.dg _, oD.dg _⟩
  · rw [Nat.mul_add _ _ 1, Nat.mul_one]; omega
  · rw [Nat.mul_add _ _ 1, Nat.mul_one]; omega
end Lm
