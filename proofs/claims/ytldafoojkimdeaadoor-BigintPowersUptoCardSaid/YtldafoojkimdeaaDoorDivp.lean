/- Plain mathematics: long division row by row, and a shift downwards limb by limb. -/
import Derived.Test.YtldafoojkimdeaaDoorLimbs
namespace Lm

theorem val_take_small {L : List Nat} (k : Nat) (h : val L < P k) : val (L.take k) = val L := by
  rcases Nat.lt_or_ge k L.length with hk | hk
  · have e := val_split L k (by omega)
    rcases Nat.eq_zero_or_pos (val (L.drop k)) with h0 | h0
    · rw [h0, Nat.mul_zero] at e; omega
    · have := Nat.mul_le_mul_left (P k) h0
      rw [Nat.mul_succ, Nat.mul_zero] at this; omega
  · rw [List.take_of_length_le hk]
theorem val_drop_small {L : List Nat} (k : Nat) (h : val L < P k) : val (L.drop k) = 0 := by
  rcases Nat.lt_or_ge k L.length with hk | hk
  · have e := val_split L k (by omega)
    rcases Nat.eq_zero_or_pos (val (L.drop k)) with h0 | h0
    · exact h0
    · have := Nat.mul_le_mul_left (P k) h0
      rw [Nat.mul_succ, Nat.mul_zero] at this; omega
  · rw [List.drop_eq_nil_of_le hk]; rfl
theorem val_drop_succ (L : List Nat) (i : Nat) (h : i < L.length) : val (L.drop i) = dg L i + 4294967296 * val (L.drop (i + 1)) := by
  rw [List.drop_eq_getElem_cons h, val_cons]
  unfold dg; rw [getD_in _ _ h]

/-- The part that a row of long division divides is less than the divisor times 2^32. -/
theorem div_row {L : List Nat} {D i n : Nat} (oL : Ok L) (hi : i < L.length) (hD : D ≤ P n) (hb : val (L.drop (i + 1)) < D) :
    val ((L.drop i).take (n + 1)) = val (L.drop i) ∧ val (L.drop i) < D * 4294967296 ∧ val ((L.drop i).drop (n + 1)) = 0 := by
  have h1 : val (L.drop i) < D * 4294967296 := by
    rw [val_drop_succ L i hi]
    have := oL.dg i
    omega
  have h2 : val (L.drop i) < P (n + 1) := by
    rw [P_succ]
    exact Nat.lt_of_lt_of_le h1 (Nat.mul_le_mul_right _ hD)
  exact ⟨val_take_small _ h2, h1, val_drop_small _ h2⟩

theorem div_sum (X D p q Q a r row : Nat) (hI : X = D * (p * 4294967296 * Q) + (a + p * row)) (hr : row = D * q + r) :
    X = D * (p * (q + 4294967296 * Q)) + (a + p * r) := by
  subst hr; rw [hI]; grind

/-- One row of long division. -/
theorem div_next {L M : List Nat} {X D Q i n : Nat} (oL : Ok L) (hl : i + (n + 1) ≤ L.length) (hD0 : 0 < D) (hD : D ≤ P n)
    (hI : X = D * (P (i + 1) * Q) + val L) (hb : val (L.drop (i + 1)) < D) (hM : val M = val ((L.drop i).take (n + 1)) % D) (hMl : M.length = n + 1) :
    X = D * (P i * (val ((L.drop i).take (n + 1)) / D + 4294967296 * Q)) + val (L.take i ++ M ++ L.drop (i + (n + 1))) ∧ val ((L.take i ++ M ++ L.drop (i + (n + 1))).drop i) < D := by
  obtain ⟨h1, h2, h3⟩ := div_row oL (by omega) hD hb
  have ht : (L.take i).length = i := by rw [List.length_take]; omega
  rw [List.drop_drop] at h3
  have e1 : val (L.take i ++ M ++ L.drop (i + (n + 1))) = val (L.take i) + P i * val M := by
    rw [List.append_assoc, val_append, val_append, ht, h3]; simp
  have e2 : val ((L.take i ++ M ++ L.drop (i + (n + 1))).drop i) = val M := by
    rw [List.append_assoc, List.drop_append_of_le_length (by omega), List.drop_eq_nil_of_le (by omega), List.nil_append, val_append, h3]; simp
  rw [e1, e2]
  refine ⟨?_, by rw [hM]; exact Nat.mod_lt _ hD0⟩
  refine div_sum X D (P i) _ Q _ _ (val (L.drop i)) ?_ ?_
  · rw [← P_succ, ← val_split L i (by omega)]; exact hI
  · rw [hM, h1]; exact (Nat.div_add_mod _ _).symm

theorem P_split {la n : Nat} (h : n ≤ la) (hn : 0 < n) : P la = P (la - n + 1) * P (n - 1) := by
  rw [← P_add]; congr 1; omega
/-- Before the first row: what stands above is less than the divisor. -/
theorem div_first {L B : List Nat} {X up la n : Nat} (_oL : Ok L) (hL : val L = X * 2 ^ up) (hX : X < P la) (hLl : L.length = la + 1) (hn : 0 < n) (hnl : n ≤ la) (hup : up ≤ 31) (hBl : B.length = n) (hB : 2147483648 ≤ dg B (n - 1)) :
    val (L.drop (la - n + 1)) < val B := by
  have e := val_split L (la - n + 1) (by omega)
  have e2 := val_split B (n - 1) (by omega)
  have e3 := val_drop_succ B (n - 1) (by omega)
  have h5 : P (n - 1) * 2147483648 ≤ val B := by
    rw [e2, e3]
    refine Nat.le_trans (Nat.mul_le_mul_left (P (n - 1)) (show 2147483648 ≤ dg B (n - 1) + 4294967296 * val (B.drop (n - 1 + 1)) by omega)) (Nat.le_add_left _ _)
  have h6 : 2 ^ up ≤ 2147483648 := by
    have : 2 ^ up ≤ 2 ^ 31 := Nat.pow_le_pow_right (by decide) hup
    simpa using this
  have h7 : P (la - n + 1) * val (L.drop (la - n + 1)) < P (la - n + 1) * val B := by
    have a1 : P (la - n + 1) * val (L.drop (la - n + 1)) ≤ X * 2 ^ up := by rw [← hL]; omega
    have a2 : X * 2 ^ up ≤ X * 2147483648 := Nat.mul_le_mul_left _ h6
    have a3 : X * 2147483648 < P la * 2147483648 := Nat.mul_lt_mul_of_pos_right hX (by decide)
    have a4 : P la * 2147483648 ≤ P (la - n + 1) * val B := by
      rw [P_split hnl hn, Nat.mul_assoc]
      exact Nat.mul_le_mul_left _ h5
    omega
  exact Nat.lt_of_mul_lt_mul_left h7

/-- After the last row. -/
theorem div_last {A B D V Q u : Nat} (hu : 0 < u) (hI : A * u = D * (P 0 * Q) + V) (hD : D = B * u) (hB : 0 < B) (hV : V < D) : Q = A / B ∧ V = A % B * u := by
  subst hD
  rw [P_zero, Nat.one_mul] at hI
  have e := Nat.div_add_mod A B
  have hm := Nat.mod_lt A hB
  have h1 : Q = A * u / (B * u) := by
    rw [hI]
    rw [Nat.add_comm, Nat.add_mul_div_left _ _ (Nat.mul_pos hB hu), Nat.div_eq_of_lt hV, Nat.zero_add]
  have h2 : V = A * u % (B * u) := by
    rw [hI, Nat.add_comm, Nat.add_mul_mod_self_left, Nat.mod_eq_of_lt hV]
  refine ⟨?_, ?_⟩
  · rw [h1]; exact Nat.mul_div_mul_right _ _ hu
  · rw [h2]; exact Nat.mul_mod_mul_right u A B

theorem val_mod_dg (L : List Nat) (oL : Ok L) : val L % 4294967296 = dg L 0 := by
  cases L with
  | nil => rfl
  | cons x l =>
    rw [val_cons, Nat.add_mul_mod_self_left]
    exact Nat.mod_eq_of_lt (oL.head)

theorem down_step {p : Nat} (hp : p ≤ 32) (x d Y : Nat) (hx : x < 4294967296) (hd : d = Y % 4294967296) :
    (x + 4294967296 * Y) / 2 ^ p = ((d * 4294967296 + x) / 2 ^ p) % 4294967296 + 4294967296 * (Y / 2 ^ p) := by
  have hq : (4294967296 : Nat) = 2 ^ p * 2 ^ (32 - p) := by rw [← Nat.pow_add, Nat.add_sub_cancel' hp]
  have hpos : 0 < 2 ^ p := Nat.two_pow_pos p
  have key : ∀ Z : Nat, (x + 4294967296 * Z) / 2 ^ p = (x + 4294967296 * (Z % 2 ^ p)) / 2 ^ p + 4294967296 * (Z / 2 ^ p) := by
    intro Z
    have e := Nat.div_add_mod Z (2 ^ p)
    have e2 : x + 4294967296 * Z = (x + 4294967296 * (Z % 2 ^ p)) + 2 ^ p * (4294967296 * (Z / 2 ^ p)) := by
      conv => lhs; rw [← e]
      grind
    rw [e2, Nat.add_mul_div_left _ _ hpos]
  have hlt : ∀ Z : Nat, (x + 4294967296 * (Z % 2 ^ p)) / 2 ^ p < 4294967296 := by
    intro Z
    rw [Nat.div_lt_iff_lt_mul hpos]
    have := Nat.mod_lt Z hpos
    have h3 := Nat.mul_le_mul_left 4294967296 (show Z % 2 ^ p + 1 ≤ 2 ^ p from this)
    omega
  have hm : d % 2 ^ p = Y % 2 ^ p := by
    rw [hd, hq, Nat.mod_mul_right_mod]
  rw [key Y, show d * 4294967296 + x = x + 4294967296 * d by omega, key d, Nat.add_mul_mod_self_left, hm, Nat.mod_eq_of_lt (hlt Y)]

/-- Whether a bit is lost when a number is cut at a limb and a bit. -/
theorem lost_mod (A : List Nat) (oA : Ok A) (w p : Nat) (hw : w < A.length) (hp : p ≤ 32) :
    val A % 2 ^ (32 * w + p) = val (A.take w) + P w * (dg A w % 2 ^ p) := by
  have e := val_split A w (by omega)
  have e2 : val (A.drop w) % 2 ^ p = dg A w % 2 ^ p := by
    rw [val_drop_succ A w hw]
    have hq : (4294967296 : Nat) = 2 ^ p * 2 ^ (32 - p) := by rw [← Nat.pow_add, Nat.add_sub_cancel' hp]
    rw [hq, Nat.mul_assoc, Nat.add_mul_mod_self_left]
  have h1 : val (A.take w) < P w := by
    have := val_lt (oA.take w)
    rwa [List.length_take, Nat.min_eq_left (by omega)] at this
  rw [Nat.pow_add, ← P_two, Nat.mod_mul, e, Nat.add_mul_mod_self_left, Nat.mod_eq_of_lt h1, Nat.add_mul_div_left _ _ (P_pos w), Nat.div_eq_of_lt h1, Nat.zero_add, e2]

theorem shift_split (A : List Nat) (oA : Ok A) (w p : Nat) (hw : w ≤ A.length) : val A / 2 ^ (32 * w + p) = val (A.drop w) / 2 ^ p := by
  have e := val_split A w hw
  have h1 : val (A.take w) < P w := by
    have := val_lt (oA.take w)
    rwa [List.length_take, Nat.min_eq_left (by omega)] at this
  rw [Nat.pow_add, ← P_two, ← Nat.div_div_eq_div_mul, e, Nat.add_mul_div_left _ _ (P_pos w), Nat.div_eq_of_lt h1, Nat.zero_add]
end Lm
