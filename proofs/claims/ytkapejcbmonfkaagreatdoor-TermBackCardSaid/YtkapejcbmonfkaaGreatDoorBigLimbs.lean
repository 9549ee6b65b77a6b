/- Plain mathematics: a list of limbs (the lowest first) stands for a number; what the loops of package bigint do to such lists. No condition but those that each theorem names. -/
namespace Lm

/-- The number that limbs make. -/
def val : List Nat → Nat
  | [] => 0
  | x :: l => x + 4294967296 * val l

/-- The limb at a place; nought beyond. -/
def dg (l : List Nat) (i : Nat) : Nat := l.getD i 0

/-- Each limb is below 2^32. -/
def Ok (l : List Nat) : Prop := ∀ x ∈ l, x < 4294967296

/-- A power of the base. -/
def P (n : Nat) : Nat := 4294967296 ^ n

theorem P_succ (n : Nat) : P (n + 1) = P n * 4294967296 := Nat.pow_succ _ _
theorem getD_in (l : List Nat) (i : Nat) (h : i < l.length) : l.getD i 0 = l[i] := by simp [List.getD, h]
theorem getD_out (l : List Nat) (i : Nat) (h : l.length ≤ i) : l.getD i 0 = 0 := by simp [List.getD, h]

theorem val_cons (x : Nat) (l : List Nat) : val (x :: l) = x + 4294967296 * val l := rfl

theorem val_append (a b : List Nat) : val (a ++ b) = val a + P a.length * val b := by
  induction a with
  | nil => simp [val, P]
  | cons x l ih =>
    rw [List.cons_append, val_cons, ih, val_cons, List.length_cons, P_succ]
    grind

theorem val_snoc (a : List Nat) (x : Nat) : val (a ++ [x]) = val a + P a.length * x := by
  rw [val_append]; simp [val]

theorem Ok.nil : Ok [] := by intro x h; cases h
theorem Ok.cons {x : Nat} {l : List Nat} (h : x < 4294967296) (k : Ok l) : Ok (x :: l) := by
  intro y hy; rcases List.mem_cons.1 hy with rfl | h'
  · exact h
  · exact k y h'
theorem Ok.tail {x : Nat} {l : List Nat} (h : Ok (x :: l)) : Ok l := fun y hy => h y (List.mem_cons_of_mem _ hy)
theorem Ok.head {x : Nat} {l : List Nat} (h : Ok (x :: l)) : x < 4294967296 := h x List.mem_cons_self
theorem Ok.append {a b : List Nat} (h : Ok a) (k : Ok b) : Ok (a ++ b) := by
  intro y hy; rcases List.mem_append.1 hy with h' | h'
  · exact h y h'
  · exact k y h'
theorem Ok.snoc {a : List Nat} {x : Nat} (h : Ok a) (k : x < 4294967296) : Ok (a ++ [x]) := h.append (Ok.nil.cons k)
theorem Ok.take {l : List Nat} (h : Ok l) (n : Nat) : Ok (l.take n) := fun y hy => h y (List.mem_of_mem_take hy)
theorem Ok.drop {l : List Nat} (h : Ok l) (n : Nat) : Ok (l.drop n) := fun y hy => h y (List.mem_of_mem_drop hy)
theorem Ok.getD {l : List Nat} (h : Ok l) (i : Nat) : l.getD i 0 < 4294967296 := by
  by_cases hi : i < l.length
  · rw [getD_in _ _ hi]; exact h _ (List.getElem_mem hi)
  · rw [getD_out _ _ (by omega)]; decide
theorem Ok.dg {l : List Nat} (h : Ok l) (i : Nat) : dg l i < 4294967296 := h.getD i
theorem Ok.set {l : List Nat} (h : Ok l) (i : Nat) {x : Nat} (k : x < 4294967296) : Ok (l.set i x) := by
  intro y hy
  rcases List.mem_or_eq_of_mem_set hy with h' | h'
  · exact h y h'
  · rw [h']; exact k

theorem val_lt {l : List Nat} (h : Ok l) : val l < P l.length := by
  induction l with
  | nil => simp [val, P]
  | cons x l ih =>
    have h1 := ih h.tail
    have h2 := h.head
    rw [val_cons, List.length_cons, P_succ]
    omega

theorem take_succ_getD (l : List Nat) (k : Nat) (h : k < l.length) : l.take (k + 1) = l.take k ++ [l.getD k 0] := by
  rw [List.take_succ_eq_append_getElem h, getD_in _ _ h]

theorem val_take_succ (l : List Nat) (k : Nat) (h : k < l.length) : val (l.take (k + 1)) = val (l.take k) + P k * l.getD k 0 := by
  rw [take_succ_getD l k h, val_snoc, List.length_take, Nat.min_eq_left (by omega)]

/-! ### Noughts at the high end -/

/-- Without noughts at the high end. -/
def tl : List Nat → List Nat
  | [] => []
  | x :: l => if tl l = [] ∧ x = 0 then [] else x :: tl l

/-- The highest limb, if there is one, is not nought. -/
def Top (l : List Nat) : Prop := ∀ h : l ≠ [], l.getLast h ≠ 0

theorem tl_snoc_zero (l : List Nat) : tl (l ++ [0]) = tl l := by
  induction l with
  | nil => rfl
  | cons x l ih => rw [List.cons_append, tl, ih, tl]

theorem tl_snoc (l : List Nat) {x : Nat} (h : x ≠ 0) : tl (l ++ [x]) = l ++ [x] := by
  induction l with
  | nil => simp [tl, h]
  | cons y l ih => rw [List.cons_append, tl, ih, if_neg (by simp)]

theorem tl_val (l : List Nat) : val (tl l) = val l := by
  induction l with
  | nil => rfl
  | cons x l ih =>
    rw [tl, val_cons]
    split
    · rename_i h; rw [← ih, h.1, h.2]; rfl
    · rw [val_cons, ih]

theorem tl_take (l : List Nat) : tl l = l.take (tl l).length := by
  induction l with
  | nil => rfl
  | cons x l ih =>
    rw [tl]
    split
    · rfl
    · rw [List.length_cons, List.take_succ_cons, ← ih]

theorem tl_length_le (l : List Nat) : (tl l).length ≤ l.length := by
  have h := congrArg List.length (tl_take l)
  rw [List.length_take] at h
  omega

theorem tl_top (l : List Nat) : Top (tl l) := by
  induction l with
  | nil => intro h; exact absurd rfl h
  | cons x l ih =>
    rw [tl]
    split
    · intro h; exact absurd rfl h
    · rename_i hn
      intro h
      by_cases h' : tl l = []
      · have e : x :: tl l = [x] := by rw [h']
        intro hx
        refine hn ⟨h', ?_⟩
        simp only [e, List.getLast_singleton] at hx
        exact hx
      · rw [List.getLast_cons h']; exact ih h'

theorem Top.tl {l : List Nat} (h : Top l) : tl l = l := by
  by_cases hl : l = []
  · subst hl; rfl
  · rw [← List.dropLast_concat_getLast hl]; exact tl_snoc _ (h hl)

/-- What the loop of 'trim' knows: all from n on are noughts. -/
theorem tl_take_of_zeros (l : List Nat) (n : Nat) (h : n < l.length) (hz : l.getD n 0 = 0) : tl (l.take (n + 1)) = tl (l.take n) := by
  rw [take_succ_getD l n h, hz, tl_snoc_zero]

theorem tl_take_of_top (l : List Nat) (n : Nat) (h : n < l.length) (hz : l.getD n 0 ≠ 0) : tl (l.take (n + 1)) = l.take (n + 1) := by
  rw [take_succ_getD l n h, tl_snoc _ hz]

/-! ### Bits -/

/-- How many bits a number has. -/
def bl (n : Nat) : Nat := if n = 0 then 0 else n.log2 + 1

theorem bl_le (n k : Nat) : bl n ≤ k ↔ n < 2 ^ k := by
  unfold bl
  split
  · rename_i h; subst h; simp [Nat.pow_pos]
  · rename_i h; rw [← Nat.log2_lt h]; omega

theorem bl_unique {n k : Nat} (h1 : n < 2 ^ k) (h2 : 2 ^ k ≤ 2 * n) : bl n = k := by
  have a := (bl_le n k).2 h1
  have b : ¬ bl n ≤ k - 1 := by
    rw [bl_le]
    intro h
    cases k with
    | zero => simp at h1; subst h1; simp at h2
    | succ k => rw [Nat.pow_succ] at h2; simp at h; omega
  by_cases hk : k = 0
  · omega
  · omega

theorem P_two (n : Nat) : P n = 2 ^ (32 * n) := by
  unfold P; rw [Nat.pow_mul]

/-- The bits of normal limbs, by the highest one. -/
theorem bl_snoc (a : List Nat) (x : Nat) (ha : Ok a) (h0 : x ≠ 0) : bl (val (a ++ [x])) = a.length * 32 + bl x := by
  have hx1 : x < 2 ^ bl x := (bl_le x (bl x)).1 (Nat.le_refl _)
  have hpos : bl x ≠ 0 := by unfold bl; rw [if_neg h0]; omega
  have hx2 : 2 ^ (bl x - 1) ≤ x := by
    have := mt (bl_le x (bl x - 1)).2 (by omega); omega
  rw [val_snoc]
  have hv := val_lt ha
  have hp := P_two a.length
  have e : 2 ^ (a.length * 32 + bl x) = P a.length * 2 ^ bl x := by rw [hp, Nat.pow_add, Nat.mul_comm 32]
  have e2 : 2 ^ bl x = 2 * 2 ^ (bl x - 1) := by rw [← Nat.pow_succ']; congr 1; omega
  apply bl_unique
  · rw [e]
    have := Nat.mul_le_mul_left (P a.length) (show x + 1 ≤ 2 ^ bl x by omega)
    rw [Nat.mul_add] at this
    omega
  · rw [e, e2]
    have := Nat.mul_le_mul_left (P a.length) hx2
    grind

theorem getLast_getD (l : List Nat) (h : l ≠ []) : l.getLast h = l.getD (l.length - 1) 0 := by
  have : 0 < l.length := List.length_pos_iff.2 h
  rw [List.getLast_eq_getElem, getD_in _ _ (by omega)]

theorem bl_top {l : List Nat} (ho : Ok l) (ht : Top l) (h : l ≠ []) : bl (val l) = (l.length - 1) * 32 + bl (l.getD (l.length - 1) 0) := by
  have e := List.dropLast_concat_getLast h
  have k := bl_snoc l.dropLast (l.getLast h) (by rw [List.dropLast_eq_take]; exact ho.take _) (ht h)
  rw [e, List.length_dropLast, getLast_getD l h] at k
  exact k

/-! ### Comparing -/

/-- -1, 0 or 1. -/
def cmp (a b : Nat) : Int := if a < b then -1 else if b < a then 1 else 0

/-! ### Sums and differences -/

end Lm

namespace Lm
/-! ### The same, by 'dg' -/
theorem val_take_dg (l : List Nat) (k : Nat) (h : k < l.length) : val (l.take (k + 1)) = val (l.take k) + P k * dg l k := val_take_succ l k h
theorem tl_take_zero (l : List Nat) (n : Nat) (h : n < l.length) (hz : dg l n = 0) : tl (l.take (n + 1)) = tl (l.take n) := tl_take_of_zeros l n h hz
theorem tl_take_top (l : List Nat) (n : Nat) (h : n < l.length) (hz : dg l n ≠ 0) : tl (l.take (n + 1)) = l.take (n + 1) := tl_take_of_top l n h hz
theorem bl_dg {l : List Nat} (ho : Ok l) (ht : Top l) (h : l ≠ []) : bl (val l) = (l.length - 1) * 32 + bl (dg l (l.length - 1)) := bl_top ho ht h
theorem dg_set_ne (l : List Nat) (i j x : Nat) (h : i ≠ j) : dg (l.set i x) j = dg l j := by
  unfold dg; simp [List.getD, List.getElem?_set_ne h]
theorem dg_append_right (a b : List Nat) (i : Nat) (h : a.length ≤ i) : dg (a ++ b) i = dg b (i - a.length) := by
  unfold dg; simp [List.getD, List.getElem?_append_right h]
theorem dg_drop (l : List Nat) (k i : Nat) : dg (l.drop k) i = dg l (k + i) := by
  unfold dg; simp [List.getD, List.getElem?_drop]
theorem dg_take (l : List Nat) (k i : Nat) (h : i < k) : dg (l.take k) i = dg l i := by
  unfold dg; simp [List.getD, h]
end Lm
