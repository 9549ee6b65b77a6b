/- Plain mathematics: a list of limbs (the lowest first) stands for a number; what the loops of package bigint do to such lists. No condition but those that each theorem names. Plain mathematics: a list of bits (the lowest first) stands for a number; what the loops of the document's answer do to such lists. No condition but those that each theorem names. How limbs lie in memory: a slice of uint32 that reads as a list of limbs. Plain facts on worlds; no condition but those that each theorem names. Walks of package bigint's smallest functions. Walks of package bigint's smallest functions. Walks: limbs from a word, sums. Walks: the difference of two lists of limbs. The contracts of the library functions that this program calls, at this seat. Walks: bits; give, fit and the small functions upon them. -/
import Derived.Test.YtldafoojkimdeaaDoorChecked
import Derived.WalkKit
import Derived.WalkSpells
import Derived.Deep.QuietTactic
import Derived.BigQuiet
import Derived.Laws.CopyOwn
import Derived.Shelf.Strings.Trim
import Derived.Shelf.Small.Utf8
import Derived.Shelf.Small.Bits
import Derived.Shelf.Small.Strs
import Derived.Shelf.Small.Wraps
import Derived.Shelf.Strconv.Itoa0
import Derived.Shelf.Strings.Search1
import Derived.Shelf.Strings.Prefix
import Derived.Shelf.Strings.Runes
import Derived.Shelf.Strings.AsciiSet
import Derived.Shelf.Unicode.DecodeSlow
import Derived.Test.YtldafoojkimdeaaDoorProg
namespace Lm

/-- The number that limbs make. -/
def val : List Nat → Nat
  | [] => 0
  | x :: l => x + 4294967296 * val l

/-- The limb at a place; nought beyond. -/
def dg (l : List Nat) (i : Nat) : Nat := l.getD i 0

/-- Each limb is below 2^32. -/
def Ok (l : List Nat) : Prop := ∀ x ∈ l, x < 4294967296

/-- A power of the base. -/
def P (n : Nat) : Nat := 4294967296 ^ n

theorem P_zero : P 0 = 1 := rfl
theorem P_succ (n : Nat) : P (n + 1) = P n * 4294967296 := Nat.pow_succ _ _
theorem P_pos (n : Nat) : 0 < P n := Nat.pow_pos (by decide)
theorem P_add (m n : Nat) : P (m + n) = P m * P n := Nat.pow_add _ _ _
theorem P_one : P 1 = 4294967296 := rfl
theorem P_le {m n : Nat} (h : m ≤ n) : P m ≤ P n := Nat.pow_le_pow_right (by decide) h

theorem getD_in (l : List Nat) (i : Nat) (h : i < l.length) : l.getD i 0 = l[i] := by simp [List.getD, h]
theorem getD_out (l : List Nat) (i : Nat) (h : l.length ≤ i) : l.getD i 0 = 0 := by simp [List.getD, h]

theorem val_nil : val [] = 0 := rfl
theorem val_cons (x : Nat) (l : List Nat) : val (x :: l) = x + 4294967296 * val l := rfl

theorem val_append (a b : List Nat) : val (a ++ b) = val a + P a.length * val b := by
  induction a with
  | nil => simp [val, P]
  | cons x l ih =>
    rw [List.cons_append, val_cons, ih, val_cons, List.length_cons, P_succ]
    grind

theorem val_snoc (a : List Nat) (x : Nat) : val (a ++ [x]) = val a + P a.length * x := by
  rw [val_append]; simp [val]

theorem Ok.nil : Ok [] := by intro x h; cases h
theorem Ok.cons {x : Nat} {l : List Nat} (h : x < 4294967296) (k : Ok l) : Ok (x :: l) := by
  intro y hy; rcases List.mem_cons.1 hy with rfl | h'
  · exact h
  · exact k y h'
theorem Ok.tail {x : Nat} {l : List Nat} (h : Ok (x :: l)) : Ok l := fun y hy => h y (List.mem_cons_of_mem _ hy)
theorem Ok.head {x : Nat} {l : List Nat} (h : Ok (x :: l)) : x < 4294967296 := h x List.mem_cons_self
theorem Ok.append {a b : List Nat} (h : Ok a) (k : Ok b) : Ok (a ++ b) := by
  intro y hy; rcases List.mem_append.1 hy with h' | h'
  · exact h y h'
  · exact k y h'
theorem Ok.snoc {a : List Nat} {x : Nat} (h : Ok a) (k : x < 4294967296) : Ok (a ++ [x]) := h.append (Ok.nil.cons k)
theorem Ok.take {l : List Nat} (h : Ok l) (n : Nat) : Ok (l.take n) := fun y hy => h y (List.mem_of_mem_take hy)
theorem Ok.drop {l : List Nat} (h : Ok l) (n : Nat) : Ok (l.drop n) := fun y hy => h y (List.mem_of_mem_drop hy)
theorem Ok.zeros (n : Nat) : Ok (List.replicate n 0) := by
  intro y hy; rw [(List.mem_replicate.1 hy).2]; decide
theorem Ok.getD {l : List Nat} (h : Ok l) (i : Nat) : l.getD i 0 < 4294967296 := by
  by_cases hi : i < l.length
  · rw [getD_in _ _ hi]; exact h _ (List.getElem_mem hi)
  · rw [getD_out _ _ (by omega)]; decide
theorem Ok.dg {l : List Nat} (h : Ok l) (i : Nat) : dg l i < 4294967296 := h.getD i
theorem Ok.set {l : List Nat} (h : Ok l) (i : Nat) {x : Nat} (k : x < 4294967296) : Ok (l.set i x) := by
  intro y hy
  rcases List.mem_or_eq_of_mem_set hy with h' | h'
  · exact h y h'
  · rw [h']; exact k

theorem val_lt {l : List Nat} (h : Ok l) : val l < P l.length := by
  induction l with
  | nil => simp [val, P]
  | cons x l ih =>
    have h1 := ih h.tail
    have h2 := h.head
    rw [val_cons, List.length_cons, P_succ]
    omega

theorem val_zeros (n : Nat) : val (List.replicate n 0) = 0 := by
  induction n with
  | zero => rfl
  | succ n ih => rw [List.replicate_succ, val_cons, ih]

theorem take_succ_getD (l : List Nat) (k : Nat) (h : k < l.length) : l.take (k + 1) = l.take k ++ [l.getD k 0] := by
  rw [List.take_succ_eq_append_getElem h, getD_in _ _ h]

theorem val_take_succ (l : List Nat) (k : Nat) (h : k < l.length) : val (l.take (k + 1)) = val (l.take k) + P k * l.getD k 0 := by
  rw [take_succ_getD l k h, val_snoc, List.length_take, Nat.min_eq_left (by omega)]

theorem val_take_ge (l : List Nat) (k : Nat) (h : l.length ≤ k) : val (l.take k) = val l := by rw [List.take_of_length_le h]

/-- Cut in two. -/
theorem val_split (l : List Nat) (k : Nat) (h : k ≤ l.length) : val l = val (l.take k) + P k * val (l.drop k) := by
  conv => lhs; rw [← List.take_append_drop k l]
  rw [val_append, List.length_take, Nat.min_eq_left h]

/-! ### Noughts at the high end -/

/-- Without noughts at the high end. -/
def tl : List Nat → List Nat
  | [] => []
  | x :: l => if tl l = [] ∧ x = 0 then [] else x :: tl l

/-- The highest limb, if there is one, is not nought. -/
def Top (l : List Nat) : Prop := ∀ h : l ≠ [], l.getLast h ≠ 0

theorem tl_snoc_zero (l : List Nat) : tl (l ++ [0]) = tl l := by
  induction l with
  | nil => rfl
  | cons x l ih => rw [List.cons_append, tl, ih, tl]

theorem tl_snoc (l : List Nat) {x : Nat} (h : x ≠ 0) : tl (l ++ [x]) = l ++ [x] := by
  induction l with
  | nil => simp [tl, h]
  | cons y l ih => rw [List.cons_append, tl, ih, if_neg (by simp)]

theorem tl_val (l : List Nat) : val (tl l) = val l := by
  induction l with
  | nil => rfl
  | cons x l ih =>
    rw [tl, val_cons]
    split
    · rename_i h; rw [← ih, h.1, h.2]; rfl
    · rw [val_cons, ih]

theorem tl_take (l : List Nat) : tl l = l.take (tl l).length := by
  induction l with
  | nil => rfl
  | cons x l ih =>
    rw [tl]
    split
    · rfl
    · rw [List.length_cons, List.take_succ_cons, ← ih]

theorem tl_length_le (l : List Nat) : (tl l).length ≤ l.length := by
  have h := congrArg List.length (tl_take l)
  rw [List.length_take] at h
  omega

theorem tl_ok {l : List Nat} (h : Ok l) : Ok (tl l) := by rw [tl_take]; exact h.take _

theorem tl_top (l : List Nat) : Top (tl l) := by
  induction l with
  | nil => intro h; exact absurd rfl h
  | cons x l ih =>
    rw [tl]
    split
    · intro h; exact absurd rfl h
    · rename_i hn
      intro h
      by_cases h' : tl l = []
      · have e : x :: tl l = [x] := by rw [h']
        intro hx
        refine hn ⟨h', ?_⟩
        simp only [e, List.getLast_singleton] at hx
        exact hx
      · rw [List.getLast_cons h']; exact ih h'

theorem Top.tl {l : List Nat} (h : Top l) : tl l = l := by
  by_cases hl : l = []
  · subst hl; rfl
  · rw [← List.dropLast_concat_getLast hl]; exact tl_snoc _ (h hl)

/-- What the loop of 'trim' knows: all from n on are noughts. -/
theorem tl_take_of_zeros (l : List Nat) (n : Nat) (h : n < l.length) (hz : l.getD n 0 = 0) : tl (l.take (n + 1)) = tl (l.take n) := by
  rw [take_succ_getD l n h, hz, tl_snoc_zero]

theorem tl_take_of_top (l : List Nat) (n : Nat) (h : n < l.length) (hz : l.getD n 0 ≠ 0) : tl (l.take (n + 1)) = l.take (n + 1) := by
  rw [take_succ_getD l n h, tl_snoc _ hz]

theorem top_ge {l : List Nat} (h : Top l) (hl : l ≠ []) : P (l.length - 1) ≤ val l := by
  have e := List.dropLast_concat_getLast hl
  have hv := val_snoc l.dropLast (l.getLast hl)
  rw [e] at hv
  rw [hv, List.length_dropLast]
  have h0 : 1 ≤ l.getLast hl := Nat.one_le_iff_ne_zero.2 (h hl)
  have := Nat.mul_le_mul_left (P (l.length - 1)) h0
  omega

theorem top_zero {l : List Nat} (h : Top l) (hv : val l = 0) : l = [] := by
  by_cases hl : l = []
  · exact hl
  · have := top_ge h hl
    have := P_pos (l.length - 1)
    omega

theorem top_length {a b : List Nat} (ha : Top a) (hb : Ok b) (h : a.length > b.length) : val b < val a := by
  have hl : a ≠ [] := by intro e; subst e; simp at h
  have h1 := top_ge ha hl
  have h2 := val_lt hb
  have h3 : P b.length ≤ P (a.length - 1) := P_le (by omega)
  omega

theorem val_inj {a b : List Nat} (ha : Ok a) (hb : Ok b) (hl : a.length = b.length) (h : val a = val b) : a = b := by
  induction a generalizing b with
  | nil => cases b with
    | nil => rfl
    | cons _ _ => simp at hl
  | cons x l ih => cases b with
    | nil => simp at hl
    | cons y m =>
      rw [val_cons, val_cons] at h
      have h1 := ha.head
      have h2 := hb.head
      have h3 : x = y := by omega
      have h4 : val l = val m := by omega
      rw [h3, ih ha.tail hb.tail (by simpa using hl) h4]

/-- There is one normal list for each number. -/
theorem top_inj {a b : List Nat} (ha : Ok a) (hb : Ok b) (ta : Top a) (tb : Top b) (h : val a = val b) : a = b := by
  refine val_inj ha hb ?_ h
  have h1 : ¬ a.length > b.length := fun k => by have := top_length ta hb k; omega
  have h2 : ¬ b.length > a.length := fun k => by have := top_length tb ha k; omega
  omega

/-! ### Bits -/

/-- How many bits a number has. -/
def bl (n : Nat) : Nat := if n = 0 then 0 else n.log2 + 1

theorem bl_le (n k : Nat) : bl n ≤ k ↔ n < 2 ^ k := by
  unfold bl
  split
  · rename_i h; subst h; simp [Nat.pow_pos]
  · rename_i h; rw [← Nat.log2_lt h]; omega

theorem bl_unique {n k : Nat} (h1 : n < 2 ^ k) (h2 : 2 ^ k ≤ 2 * n) : bl n = k := by
  have a := (bl_le n k).2 h1
  have b : ¬ bl n ≤ k - 1 := by
    rw [bl_le]
    intro h
    cases k with
    | zero => simp at h1; subst h1; simp at h2
    | succ k => rw [Nat.pow_succ] at h2; simp at h; omega
  by_cases hk : k = 0
  · omega
  · omega

theorem P_two (n : Nat) : P n = 2 ^ (32 * n) := by
  unfold P; rw [Nat.pow_mul]

/-- The bits of normal limbs, by the highest one. -/
theorem bl_snoc (a : List Nat) (x : Nat) (ha : Ok a) (h0 : x ≠ 0) : bl (val (a ++ [x])) = a.length * 32 + bl x := by
  have hx1 : x < 2 ^ bl x := (bl_le x (bl x)).1 (Nat.le_refl _)
  have hpos : bl x ≠ 0 := by unfold bl; rw [if_neg h0]; omega
  have hx2 : 2 ^ (bl x - 1) ≤ x := by
    have := mt (bl_le x (bl x - 1)).2 (by omega); omega
  rw [val_snoc]
  have hv := val_lt ha
  have hp := P_two a.length
  have e : 2 ^ (a.length * 32 + bl x) = P a.length * 2 ^ bl x := by rw [hp, Nat.pow_add, Nat.mul_comm 32]
  have e2 : 2 ^ bl x = 2 * 2 ^ (bl x - 1) := by rw [← Nat.pow_succ']; congr 1; omega
  apply bl_unique
  · rw [e]
    have := Nat.mul_le_mul_left (P a.length) (show x + 1 ≤ 2 ^ bl x by omega)
    rw [Nat.mul_add] at this
    omega
  · rw [e, e2]
    have := Nat.mul_le_mul_left (P a.length) hx2
    grind

theorem getLast_getD (l : List Nat) (h : l ≠ []) : l.getLast h = l.getD (l.length - 1) 0 := by
  have : 0 < l.length := List.length_pos_iff.2 h
  rw [List.getLast_eq_getElem, getD_in _ _ (by omega)]

theorem bl_top {l : List Nat} (ho : Ok l) (ht : Top l) (h : l ≠ []) : bl (val l) = (l.length - 1) * 32 + bl (l.getD (l.length - 1) 0) := by
  have e := List.dropLast_concat_getLast h
  have k := bl_snoc l.dropLast (l.getLast h) (by rw [List.dropLast_eq_take]; exact ho.take _) (ht h)
  rw [e, List.length_dropLast, getLast_getD l h] at k
  exact k

/-! ### Comparing -/

/-- -1, 0 or 1. -/
def cmp (a b : Nat) : Int := if a < b then -1 else if b < a then 1 else 0

/-- From the highest limb on: those from k on are the same. -/
theorem val_eq_above (a b : List Nat) (k : Nat) (hl : a.length = b.length) (hk : k ≤ a.length) (h : ∀ j, k ≤ j → j < a.length → a.getD j 0 = b.getD j 0) : a.drop k = b.drop k := by
  apply List.ext_getElem
  · simp [hl]
  · intro i h1 h2
    simp at h1 h2
    have := h (k + i) (by omega) (by omega)
    rw [getD_in _ _ (by omega), getD_in _ _ (by omega)] at this
    simpa using this

theorem cmp_at (a b : List Nat) (k : Nat) (ha : Ok a) (_hb : Ok b) (hl : a.length = b.length) (hk : k < a.length)
    (h : ∀ j, k + 1 ≤ j → j < a.length → a.getD j 0 = b.getD j 0) (hlt : a.getD k 0 < b.getD k 0) : val a < val b := by
  have e := val_eq_above a b (k + 1) hl (by omega) h
  have s1 := val_split a (k + 1) (by omega)
  have s2 := val_split b (k + 1) (by omega)
  rw [e] at s1
  have t1 := val_take_succ a k hk
  have t2 := val_take_succ b k (by omega)
  have l1 := val_lt (ha.take k)
  rw [List.length_take, Nat.min_eq_left (by omega)] at l1
  have := Nat.mul_le_mul_left (P k) (show a.getD k 0 + 1 ≤ b.getD k 0 by omega)
  rw [Nat.mul_add] at this
  omega

/-! ### Sums and differences -/

/-- One step of a sum: p is the power so far. -/
theorem sum_step {p c x y o c' s t u : Nat} (h : s + p * c = t + u) (he : c + x + y = o + 4294967296 * c') :
    (s + p * o) + p * 4294967296 * c' = (t + p * x) + (u + p * y) := by grind

/-- One step of a difference. -/
theorem diff_step {p c x y o c' s t u : Nat} (h : s + u = t + p * c) (he : o + y + c = x + 4294967296 * c') :
    (s + p * o) + (u + p * y) = (t + p * x) + p * 4294967296 * c' := by grind

/-- One step of a product with one limb onto a row: p is the power so far. -/
theorem mul_step {p c x y r o c' s t q : Nat} (h : s + p * c = t + x * q) (he : c + x * y + r = o + 4294967296 * c') :
    (s + p * o) + p * 4294967296 * c' = (t + p * r) + x * (q + p * y) := by grind

end Lm

namespace Lm
/-! ### The same, by 'dg' -/
theorem val_take_dg (l : List Nat) (k : Nat) (h : k < l.length) : val (l.take (k + 1)) = val (l.take k) + P k * dg l k := val_take_succ l k h
theorem tl_take_zero (l : List Nat) (n : Nat) (h : n < l.length) (hz : dg l n = 0) : tl (l.take (n + 1)) = tl (l.take n) := tl_take_of_zeros l n h hz
theorem tl_take_top (l : List Nat) (n : Nat) (h : n < l.length) (hz : dg l n ≠ 0) : tl (l.take (n + 1)) = l.take (n + 1) := tl_take_of_top l n h hz
theorem bl_dg {l : List Nat} (ho : Ok l) (ht : Top l) (h : l ≠ []) : bl (val l) = (l.length - 1) * 32 + bl (dg l (l.length - 1)) := bl_top ho ht h
theorem dg_set_self (l : List Nat) (i x : Nat) (h : i < l.length) : dg (l.set i x) i = x := by
  unfold dg; rw [getD_in _ _ (by simpa using h)]; simp
theorem dg_set_ne (l : List Nat) (i j x : Nat) (h : i ≠ j) : dg (l.set i x) j = dg l j := by
  unfold dg; simp [List.getD, List.getElem?_set_ne h]
theorem dg_append_left (a b : List Nat) (i : Nat) (h : i < a.length) : dg (a ++ b) i = dg a i := by
  unfold dg; simp [List.getD, List.getElem?_append_left h]
theorem dg_append_right (a b : List Nat) (i : Nat) (h : a.length ≤ i) : dg (a ++ b) i = dg b (i - a.length) := by
  unfold dg; simp [List.getD, List.getElem?_append_right h]
theorem dg_zeros (n i : Nat) : dg (List.replicate n 0) i = 0 := by
  unfold dg; simp [List.getD, List.getElem?_replicate]; split <;> rfl
theorem dg_drop (l : List Nat) (k i : Nat) : dg (l.drop k) i = dg l (k + i) := by
  unfold dg; simp [List.getD, List.getElem?_drop]
theorem dg_take (l : List Nat) (k i : Nat) (h : i < k) : dg (l.take k) i = dg l i := by
  unfold dg; simp [List.getD, h]
theorem set_snoc_zeros (a : List Nat) (n x : Nat) (h : a.length < n) :
    (a ++ List.replicate (n - a.length) 0).set a.length x = (a ++ [x]) ++ List.replicate (n - (a.length + 1)) 0 := by
  obtain ⟨m, hm⟩ : ∃ m, n - a.length = m + 1 := ⟨n - a.length - 1, by omega⟩
  rw [hm, List.replicate_succ, List.set_append_right _ _ (Nat.le_refl _), Nat.sub_self, List.set_cons_zero, show n - (a.length + 1) = m by omega]
  simp
end Lm

namespace Lm

/-- The number that bits make. -/
def bv : List Nat → Nat
  | [] => 0
  | x :: l => x + 2 * bv l

/-- Each is a bit. -/
def B1 (l : List Nat) : Prop := ∀ x ∈ l, x ≤ 1

theorem bv_nil : bv [] = 0 := rfl
theorem bv_cons (x : Nat) (l : List Nat) : bv (x :: l) = x + 2 * bv l := rfl
theorem bv_append (a b : List Nat) : bv (a ++ b) = bv a + 2 ^ a.length * bv b := by
  induction a with
  | nil => simp [bv]
  | cons x l ih => rw [List.cons_append, bv_cons, ih, bv_cons, List.length_cons, Nat.pow_succ]; grind
theorem bv_snoc (a : List Nat) (x : Nat) : bv (a ++ [x]) = bv a + 2 ^ a.length * x := by rw [bv_append]; simp [bv]

theorem B1.nil : B1 [] := by intro x h; cases h
theorem B1.cons {x : Nat} {l : List Nat} (h : x ≤ 1) (k : B1 l) : B1 (x :: l) := by
  intro y hy; rcases List.mem_cons.1 hy with rfl | h'
  · exact h
  · exact k y h'
theorem B1.tail {x : Nat} {l : List Nat} (h : B1 (x :: l)) : B1 l := fun y hy => h y (List.mem_cons_of_mem _ hy)
theorem B1.head {x : Nat} {l : List Nat} (h : B1 (x :: l)) : x ≤ 1 := h x List.mem_cons_self
theorem B1.append {a b : List Nat} (h : B1 a) (k : B1 b) : B1 (a ++ b) := by
  intro y hy; rcases List.mem_append.1 hy with h' | h'
  · exact h y h'
  · exact k y h'
theorem B1.snoc {a : List Nat} {x : Nat} (h : B1 a) (k : x ≤ 1) : B1 (a ++ [x]) := h.append (B1.nil.cons k)
theorem B1.take {l : List Nat} (h : B1 l) (n : Nat) : B1 (l.take n) := fun y hy => h y (List.mem_of_mem_take hy)
theorem B1.drop {l : List Nat} (h : B1 l) (n : Nat) : B1 (l.drop n) := fun y hy => h y (List.mem_of_mem_drop hy)
theorem B1.zeros (n : Nat) : B1 (List.replicate n 0) := by intro y hy; rw [(List.mem_replicate.1 hy).2]; decide
theorem B1.dg {l : List Nat} (h : B1 l) (i : Nat) : dg l i ≤ 1 := by
  unfold Lm.dg
  by_cases hi : i < l.length
  · rw [getD_in _ _ hi]; exact h _ (List.getElem_mem hi)
  · rw [getD_out _ _ (by omega)]; decide
theorem B1.set {l : List Nat} (h : B1 l) (i : Nat) {x : Nat} (k : x ≤ 1) : B1 (l.set i x) := by
  intro y hy
  rcases List.mem_or_eq_of_mem_set hy with h' | h'
  · exact h y h'
  · rw [h']; exact k
theorem B1.tl {l : List Nat} (h : B1 l) : B1 (tl l) := by rw [tl_take]; exact h.take _

theorem bv_lt {l : List Nat} (h : B1 l) : bv l < 2 ^ l.length := by
  induction l with
  | nil => simp [bv]
  | cons x l ih =>
    have h1 := ih h.tail
    have h2 := h.head
    rw [bv_cons, List.length_cons, Nat.pow_succ]; omega
theorem bv_zeros (n : Nat) : bv (List.replicate n 0) = 0 := by
  induction n with
  | zero => rfl
  | succ n ih => rw [List.replicate_succ, bv_cons, ih]
theorem take_snoc_dg (l : List Nat) (k : Nat) (h : k < l.length) : l.take (k + 1) = l.take k ++ [dg l k] := take_succ_getD l k h
theorem bv_take_dg (l : List Nat) (k : Nat) (h : k < l.length) : bv (l.take (k + 1)) = bv (l.take k) + 2 ^ k * dg l k := by
  rw [take_snoc_dg l k h, bv_snoc, List.length_take, Nat.min_eq_left (by omega)]
theorem bv_take_ge (l : List Nat) (k : Nat) (h : l.length ≤ k) : bv (l.take k) = bv l := by rw [List.take_of_length_le h]
theorem dg_out (l : List Nat) (k : Nat) (h : l.length ≤ k) : dg l k = 0 := getD_out l k h
theorem bv_take_any (l : List Nat) (k : Nat) : bv (l.take (k + 1)) = bv (l.take k) + 2 ^ k * dg l k := by
  by_cases h : k < l.length
  · exact bv_take_dg l k h
  · rw [bv_take_ge l _ (by omega), bv_take_ge l _ (by omega), dg_out l k (by omega)]; simp
theorem bv_drop_dg (l : List Nat) (k : Nat) : bv (l.drop k) = dg l k + 2 * bv (l.drop (k + 1)) := by
  by_cases h : k < l.length
  · rw [List.drop_eq_getElem_cons h, bv_cons]; unfold dg; rw [getD_in _ _ h]
  · rw [List.drop_eq_nil_of_le (by omega), List.drop_eq_nil_of_le (by omega), dg_out l k (by omega)]; rfl
theorem bv_split (l : List Nat) (k : Nat) (h : k ≤ l.length) : bv l = bv (l.take k) + 2 ^ k * bv (l.drop k) := by
  conv => lhs; rw [← List.take_append_drop k l]
  rw [bv_append, List.length_take, Nat.min_eq_left h]
theorem bv_split_any (l : List Nat) (k : Nat) : bv l = bv (l.take k) + 2 ^ k * bv (l.drop k) := by
  by_cases h : k ≤ l.length
  · exact bv_split l k h
  · rw [bv_take_ge l k (by omega), List.drop_eq_nil_of_le (by omega)]; simp [bv]
theorem tl_bv (l : List Nat) : bv (tl l) = bv l := by
  induction l with
  | nil => rfl
  | cons x l ih =>
    rw [tl, bv_cons]
    split
    · rename_i h; rw [← ih, h.1, h.2]; rfl
    · rw [bv_cons, ih]

theorem btop_ge {l : List Nat} (h : Top l) (hl : l ≠ []) : 2 ^ (l.length - 1) ≤ bv l := by
  have e := List.dropLast_concat_getLast hl
  have hv := bv_snoc l.dropLast (l.getLast hl)
  rw [e] at hv
  rw [hv, List.length_dropLast]
  have h0 : 1 ≤ l.getLast hl := Nat.one_le_iff_ne_zero.2 (h hl)
  have := Nat.mul_le_mul_left (2 ^ (l.length - 1)) h0
  omega
theorem btop_zero {l : List Nat} (h : Top l) (hv : bv l = 0) : l = [] := by
  by_cases hl : l = []
  · exact hl
  · have := btop_ge h hl
    have := Nat.pow_pos (n := l.length - 1) (show 0 < 2 by decide)
    omega
/-- How long the bits of a number are. -/
theorem btop_len {l : List Nat} (h1 : B1 l) (h : Top l) : l.length = bl (bv l) := by
  by_cases hl : l = []
  · subst hl; rfl
  · have hp : 0 < l.length := List.length_pos_iff.2 hl
    have a := btop_ge h hl
    have b := bv_lt h1
    refine (bl_unique b ?_).symm
    have : 2 ^ l.length = 2 * 2 ^ (l.length - 1) := by rw [← Nat.pow_succ']; congr 1; omega
    omega
theorem bv_inj {a b : List Nat} (ha : B1 a) (hb : B1 b) (hl : a.length = b.length) (h : bv a = bv b) : a = b := by
  induction a generalizing b with
  | nil => cases b with
    | nil => rfl
    | cons _ _ => simp at hl
  | cons x l ih => cases b with
    | nil => simp at hl
    | cons y m =>
      rw [bv_cons, bv_cons] at h
      have h1 := ha.head
      have h2 := hb.head
      have h3 : x = y := by omega
      have h4 : bv l = bv m := by omega
      rw [h3, ih ha.tail hb.tail (by simpa using hl) h4]
theorem btop_inj {a b : List Nat} (ha : B1 a) (hb : B1 b) (ta : Top a) (tb : Top b) (h : bv a = bv b) : a = b :=
  bv_inj ha hb (by rw [btop_len ha ta, btop_len hb tb, h]) h

/-- The number of a sign and bits. -/
def sg (n : Bool) (L : List Nat) : Int := if n then -(bv L : Int) else (bv L : Int)
theorem sg_abs (n : Bool) (L : List Nat) : (sg n L).natAbs = bv L := by unfold sg; cases n <;> simp
theorem sg_nil (n : Bool) : sg n [] = 0 := by cases n <;> rfl
theorem sg_tl (n : Bool) (L : List Nat) : sg n (tl L) = sg n L := by unfold sg; rw [tl_bv]
theorem sg_not (n : Bool) (L : List Nat) : sg (!n) L = -sg n L := by unfold sg; cases n <;> simp

/-! ### Comparing bits -/
theorem bv_above (a b : List Nat) (k : Nat) (hl : a.length = b.length) (h : ∀ j, k ≤ j → j < a.length → dg a j = dg b j) : a.drop k = b.drop k := by
  apply List.ext_getElem
  · simp [hl]
  · intro i h1 h2
    simp at h1 h2
    have := h (k + i) (by omega) (by omega)
    unfold dg at this
    rw [getD_in _ _ (by omega), getD_in _ _ (by omega)] at this
    simpa using this
theorem bv_less (a b : List Nat) (k : Nat) (ha : B1 a) (hl : a.length = b.length) (hk : k < a.length)
    (h : ∀ j, k + 1 ≤ j → j < a.length → dg a j = dg b j) (hlt : dg a k < dg b k) : bv a < bv b := by
  have e := bv_above a b (k + 1) hl h
  have s1 := bv_split a (k + 1) (by omega)
  have s2 := bv_split b (k + 1) (by omega)
  rw [e] at s1
  have t1 := bv_take_dg a k hk
  have t2 := bv_take_dg b k (by omega)
  have l1 := bv_lt (ha.take k)
  rw [List.length_take, Nat.min_eq_left (by omega)] at l1
  have := Nat.mul_le_mul_left (2 ^ k) (show dg a k + 1 ≤ dg b k by omega)
  rw [Nat.mul_add] at this
  omega
theorem bv_shorter {a b : List Nat} (ha : B1 a) (tb : Top b) (h : a.length < b.length) : bv a < bv b := by
  have hl : b ≠ [] := by intro e; subst e; simp at h
  have h1 := btop_ge tb hl
  have h2 := bv_lt ha
  have h3 : 2 ^ a.length ≤ 2 ^ (b.length - 1) := Nat.pow_le_pow_right (by decide) (by omega)
  omega

/-! ### Sums and differences -/
theorem bsum_step {p c x y o c' s t u : Nat} (h : s + p * c = t + u) (he : x + y + c = o + 2 * c') :
    (s + p * o) + p * 2 * c' = (t + p * x) + (u + p * y) := by grind
theorem bdiff_step {p c x y o c' s t u : Nat} (h : s + u = t + p * c) (he : o + y + c = x + 2 * c') :
    (s + p * o) + (u + p * y) = (t + p * x) + p * 2 * c' := by grind

/-! ### Limbs and bits -/
theorem P_bits (n : Nat) : P n = 2 ^ (32 * n) := P_two n
theorem limb_bit {p x s t : Nat} (h : s + p * x = t) : (s + p * (x % 2)) + p * 2 * (x / 2) = t := by
  have := Nat.div_add_mod x 2
  grind

/-! ### Setting one place -/
theorem bv_set (l : List Nat) (j v : Nat) (h : j < l.length) : bv (l.set j v) + 2 ^ j * dg l j = bv l + 2 ^ j * v := by
  induction l generalizing j with
  | nil => simp at h
  | cons x l ih =>
    cases j with
    | zero => simp [bv, dg]; omega
    | succ j =>
      have := ih j (by simpa using h)
      have e : dg (x :: l) (j + 1) = dg l j := by simp [dg]
      rw [List.set_cons_succ, bv_cons, bv_cons, e, Nat.pow_succ]
      grind
theorem bv_set_add (l : List Nat) (j y : Nat) (h : j < l.length) : bv (l.set j (dg l j + y)) = bv l + 2 ^ j * y := by
  have := bv_set l j (dg l j + y) h
  grind

/-! ### Bits into limbs -/
theorem chunk_step (B : List Nat) (j n : Nat) : bv ((B.drop j).take (n + 1)) = dg B j + 2 * bv ((B.drop (j + 1)).take n) := by
  by_cases h : j < B.length
  · rw [List.drop_eq_getElem_cons h, List.take_succ_cons, bv_cons]; unfold dg; rw [getD_in _ _ h]
  · rw [List.drop_eq_nil_of_le (by omega), List.drop_eq_nil_of_le (by omega), dg_out B j (by omega)]; simp [bv]
theorem chunk_take (B : List Nat) (j n : Nat) : bv (B.take (j + n)) = bv (B.take j) + 2 ^ j * bv ((B.drop j).take n) := by
  have h := bv_split_any (B.take (j + n)) j
  rw [List.take_take, Nat.min_eq_left (Nat.le_add_right _ _), List.drop_take, Nat.add_sub_cancel_left] at h
  exact h
theorem chunk_lt {B : List Nat} (h : B1 B) (j n : Nat) : bv ((B.drop j).take n) < 2 ^ n := by
  have h1 := bv_lt ((h.drop j).take n)
  have h2 : ((B.drop j).take n).length ≤ n := by rw [List.length_take]; omega
  exact Nat.lt_of_lt_of_le h1 (Nat.pow_le_pow_right (by decide) h2)
theorem top_of_ge {M : List Nat} (ho : Ok M) (h : M ≠ [] → P (M.length - 1) ≤ val M) : Top M := by
  intro hl h0
  have e := List.dropLast_concat_getLast hl
  have hv := val_snoc M.dropLast (M.getLast hl)
  rw [e, h0] at hv
  have hd : Ok M.dropLast := by rw [List.dropLast_eq_take]; exact ho.take _
  have := val_lt hd
  rw [List.length_dropLast] at this
  have := h hl
  omega
/-- Limbs made of normal bits, 32 a limb, are normal. -/
theorem top_chunks {M B : List Nat} (ho : Ok M) (tB : Top B) (h : val M = bv B) (h1 : 32 * M.length < B.length + 32) : Top M := by
  refine top_of_ge ho fun hl => ?_
  have hm : 0 < M.length := List.length_pos_iff.2 hl
  have hb : B ≠ [] := by intro e; subst e; simp at h1; omega
  have := btop_ge tB hb
  rw [h, P_two]
  exact Nat.le_trans (Nat.pow_le_pow_right (by decide) (by omega)) this
/-- Bits made of limbs are those of the same number. -/
theorem bl_chunks {M : List Nat} (ho : Ok M) : bl (val M) ≤ 32 * M.length := by
  rw [bl_le, ← P_two]; exact val_lt ho

/-! ### Products -/
theorem btimes_step {s x t y p i : Nat} (h : s = t * y) (hx : x = 1) (hp : p = 2 ^ i) : s + p * y = (t + 2 ^ i * x) * y := by subst hx hp h; grind
theorem btimes_skip {s x t y i : Nat} (h : s = t * y) (hx : x = 0) : s = (t + 2 ^ i * x) * y := by subst hx h; grind
theorem bcarry_step {p c x o c' s t : Nat} (h : s + p * c = t) (he : x + c = o + 2 * c') : (s + p * o) + p * 2 * c' = t + p * x := by grind
end Lm

namespace Go.Proofs.YtldafoojkimdeaaDoor
open Go.RowKit Lm

/-- Kept from the walk. -/
theorem hid {p : Prop} (h : p) : Hid p := h

/-- The slice of that address, length and capacity reads as these limbs. -/
structure Rd (w : World) (ao : Option Addr) (len cap : Nat) (A : List Nat) : Prop where
  size : A.length = len
  ok : Ok A
  room : len ≤ cap
  most : len ≤ 70368744177664
  cells : 0 < len → ∃ b off, ao = some ⟨b, off, none⟩ ∧ ∀ i, i < len → w.cell? ⟨b, off + i, none⟩ = some (.int .u32 (dg A i : Int))

theorem Rd.keep {w w' : World} {ao : Option Addr} {len cap : Nat} {A : List Nat} (h : Rd w ao len cap A) (hb : Below w.heap.size w w') : Rd w' ao len cap A :=
  ⟨h.size, h.ok, h.room, h.most, fun h0 => by
    obtain ⟨b, off, e, hc⟩ := h.cells h0
    exact ⟨b, off, e, fun i hi => (hb.cell (World.block_lt_of_cell? w _ (hc i hi))).trans (hc i hi)⟩⟩
theorem Rd.alloc {w : World} {ao : Option Addr} {len cap : Nat} {A : List Nat} (h : Rd w ao len cap A) (o : Obj) : Rd (w.alloc o) ao len cap A :=
  h.keep ((Below.refl _ _).alloc (Nat.le_refl _) _)
theorem Rd.drew {w : World} {ao : Option Addr} {len cap : Nat} {A : List Nat} (h : Rd w ao len cap A) : Rd w.drew ao len cap A := h.keep (Below.refl _ _).drew

theorem Rd.take {w : World} {ao : Option Addr} {len cap : Nat} {A : List Nat} (h : Rd w ao len cap A) {n : Nat} (hn : n ≤ len) : Rd w ao n cap (A.take n) :=
  ⟨by rw [List.length_take, h.size]; omega, h.ok.take _, by have := h.room; omega, by have := h.most; omega, fun h0 => by
    obtain ⟨b, off, e, hc⟩ := h.cells (by omega)
    exact ⟨b, off, e, fun i hi => by rw [dg_take _ _ _ hi]; exact hc i (by omega)⟩⟩
theorem Rd.tl {w : World} {ao : Option Addr} {len cap : Nat} {A : List Nat} (h : Rd w ao len cap A) : Rd w ao (tl A).length cap (tl A) := by
  have := h.take (n := (Lm.tl A).length) (by rw [← h.size]; exact tl_length_le _)
  rwa [← tl_take] at this

theorem bdrew {B : Nat} {a w : World} (h : Below B a w) (n : Nat) : Below B a (w.drewN n) := ⟨h.os, h.tape, h.output, h.size, h.block⟩
theorem Rd.drewN {w : World} {ao : Option Addr} {len cap : Nat} {A : List Nat} (h : Rd w ao len cap A) (n : Nat) : Rd (w.drewN n) ao len cap A := h.keep (bdrew (Below.refl _ _) n)

/-! ### A block of limbs, known whole -/
def u32s (L : List Nat) : Array Value := (L.map fun x : Nat => Value.int .u32 (x : Int)).toArray

theorem u32s_size (L : List Nat) : (u32s L).size = L.length := by simp [u32s]
theorem u32s_get (L : List Nat) (i : Nat) (h : i < L.length) : (u32s L)[i]? = some (.int .u32 (dg L i : Int)) := by
  unfold u32s dg
  rw [getD_in _ _ h]
  simp [h]
theorem u32s_set (L : List Nat) (i x : Nat) : (u32s L).setIfInBounds i (.int .u32 (x : Int)) = u32s (L.set i x) := by
  unfold u32s
  rw [List.map_set]; simp

structure Rw (w : World) (g : Nat) (L : List Nat) : Prop where
  block : w.heap[g]? = some (.cells (u32s L) 43 (0, 0))

theorem Rw.lt {w : World} {g : Nat} {L : List Nat} (h : Rw w g L) : g < w.heap.size := lt_of_block h.block
theorem Rw.cell {w : World} {g : Nat} {L : List Nat} (h : Rw w g L) (i : Nat) (hi : i < L.length) : w.cell? ⟨g, i, none⟩ = some (.int .u32 (dg L i : Int)) := by
  have e := u32s_get L i hi
  simp [World.cell?, h.block, e]
theorem Rw.free {w : World} {g : Nat} {L : List Nat} (h : Rw w g L) (i : Nat) : w.frozen? ⟨g, i, none⟩ = false := by
  simp [World.frozen?, h.block]
theorem Rw.set {w : World} {g : Nat} {L : List Nat} (h : Rw w g L) (i x : Nat) : Rw (w.setCell ⟨g, i, none⟩ (.int .u32 (x : Int))) g (L.set i x) :=
  ⟨by rw [heap_setCell_same w g i (u32s L) 43 _ h.block, u32s_set]⟩
theorem Rw.set' {w : World} {g : Nat} {L : List Nat} (h : Rw w g L) (i : Nat) {z : Int} (x : Nat) (hz : z = (x : Int)) : Rw (w.setCell ⟨g, i, none⟩ (.int .u32 z)) g (L.set i x) := by
  subst hz; exact h.set i x
theorem Rw.keep {w w' : World} {g B : Nat} {L : List Nat} (h : Rw w g L) (hb : Below B w w') (hg : g < B) : Rw w' g L := ⟨by rw [hb.block g hg]; exact h.block⟩
theorem Rw.keep' {w w' : World} {g : Nat} {L : List Nat} (h : Rw w g L) (hb : Below w.heap.size w w') : Rw w' g L := h.keep hb h.lt
theorem Rw.alloc {w : World} {g : Nat} {L : List Nat} (h : Rw w g L) (o : Obj) : Rw (w.alloc o) g L := h.keep' ((Below.refl _ _).alloc (Nat.le_refl _) _)
theorem Rw.drew {w : World} {g : Nat} {L : List Nat} (h : Rw w g L) : Rw w.drew g L := h.keep' (Below.refl _ _).drew
theorem Rw.other {w : World} {g : Nat} {L : List Nat} (h : Rw w g L) {p : Addr} (hp : g ≠ p.block) (u : Value) : Rw (w.setCell p u) g L := ⟨by rw [Below.heap_setCell _ _ _ _ hp]; exact h.block⟩
theorem Rw.new (w : World) (L : List Nat) : Rw (w.alloc (.cells (u32s L) 43)) w.heap.size L := ⟨heap_alloc_new w _⟩

theorem Rw.rd {w : World} {g : Nat} {L : List Nat} (h : Rw w g L) (ho : Ok L) (off n cap : Nat) (hn : off + n ≤ L.length) (hc : n ≤ cap) (hm : cap ≤ 70368744177664) :
    Rd w (some ⟨g, off, none⟩) n cap ((L.drop off).take n) :=
  ⟨by rw [List.length_take, List.length_drop]; omega, (ho.drop _).take _, hc, by omega, fun _ => ⟨g, off, rfl, fun i hi => by
    rw [dg_take _ _ _ hi, dg_drop]; exact h.cell _ (by omega)⟩⟩
theorem Rw.whole {w : World} {g : Nat} {L : List Nat} (h : Rw w g L) (ho : Ok L) (cap : Nat) (hc : L.length ≤ cap) (hm : cap ≤ 70368744177664) :
    Rd w (some ⟨g, 0, none⟩) L.length cap L := by
  have := h.rd ho 0 L.length cap (by omega) hc hm
  rwa [List.drop_zero, List.take_length] at this

theorem Rw.of_own {w : World} {base g n : Nat} {L : List Nat} {xs : List Value} (h : w.ownsRow base 43 1 (.slice (some ⟨g, 0, none⟩) n n) n xs) (hx : xs = L.map fun x : Nat => Value.int .u32 (x : Int)) : Rw w g L := by
  rcases h.2 with ⟨h', _⟩ | ⟨g', cap', cur, h', hb, hg, hnc, hcm, hcs, htake⟩
  · simp at h'
  · simp only [Value.slice.injEq, Option.some.injEq, Addr.mk.injEq, and_true, true_and] at h'
    obtain ⟨rfl, rfl⟩ := h'
    refine ⟨?_⟩
    rw [hg]
    have e : cur = u32s L := by
      unfold u32s
      rw [← hx, ← htake, List.take_of_length_le (by rw [Array.length_toList, hcs]; exact Nat.le_refl _)]
    rw [e]
theorem Rw.to_own {w : World} {g base : Nat} {L : List Nat} (h : Rw w g L) (hb : base ≤ g) (hm : L.length ≤ maxLen) : w.ownsRow base 43 1 (.slice (some ⟨g, 0, none⟩) L.length L.length) L.length (L.map fun x : Nat => Value.int .u32 (x : Int)) :=
  ⟨by simp, .inr ⟨g, L.length, u32s L, rfl, hb, h.block, Nat.le_refl _, hm, by simp [u32s], by simp only [u32s, Nat.mul_one]; rw [← List.map_take, List.take_length]⟩⟩

theorem made_zeros (n m : Nat) (h : m = n) : (madeCells (Value.int .u32 0).cells m).toList = (List.replicate n 0).map fun x : Nat => Value.int .u32 (x : Int) := by
  rw [h, show (Value.int .u32 0).cells = #[Value.int .u32 0] from rfl, toList_madeCells_one]
  simp

theorem Tryd.info43 : (Tryd.prog.info? 43).map (fun i => (i.zero, i.size, i.bytes)) = some (some (.int .u32 0), 1, 4) := by kernel_rfl

/-! ### Numbers: a sign and limbs of the call's own -/
/-- The limbs lie whole in a block of their own, from block number base on; no limbs: a nil slice. -/
def Own (base : Nat) (w : World) (ao : Option Addr) (len : Nat) (L : List Nat) : Prop :=
  (L = [] ∧ ao = none ∧ len = 0) ∨ (L ≠ [] ∧ len = L.length ∧ ∃ g, base ≤ g ∧ ao = some ⟨g, 0, none⟩ ∧ Rw w g L)

/-- The number of a sign and limbs. -/
def num (n : Bool) (L : List Nat) : Int := if n then -(val L : Int) else (val L : Int)

/-- A sign and a slice of the call's own that stand for a number, normal. -/
def Num (base : Nat) (w : World) (n : Bool) (ao : Option Addr) (len : Nat) (v : Int) : Prop :=
  ∃ L, Ok L ∧ Top L ∧ Own base w ao len L ∧ (L = [] → n = false) ∧ num n L = v ∧ L.length ≤ 70368744177664

theorem Own.keep {base : Nat} {w w' : World} {ao : Option Addr} {len : Nat} {L : List Nat} (h : Own base w ao len L) (hb : Below w.heap.size w w') : Own base w' ao len L := by
  rcases h with h | ⟨h1, h2, g, h3, h4, h5⟩
  · exact .inl h
  · exact .inr ⟨h1, h2, g, h3, h4, h5.keep' hb⟩
theorem Num.keep {base : Nat} {w w' : World} {n : Bool} {ao : Option Addr} {len : Nat} {v : Int} (h : Num base w n ao len v) (hb : Below w.heap.size w w') : Num base w' n ao len v := by
  obtain ⟨L, h1, h2, h3, h4⟩ := h
  exact ⟨L, h1, h2, h3.keep hb, h4⟩
theorem Num.mono {base base' : Nat} {w : World} {n : Bool} {ao : Option Addr} {len : Nat} {v : Int} (h : Num base w n ao len v) (hb : base' ≤ base) : Num base' w n ao len v := by
  obtain ⟨L, h1, h2, h3, h4⟩ := h
  refine ⟨L, h1, h2, ?_, h4⟩
  rcases h3 with h | ⟨k1, k2, g, k3, k4, k5⟩
  · exact .inl h
  · exact .inr ⟨k1, k2, g, Nat.le_trans hb k3, k4, k5⟩
theorem Num.rd {base : Nat} {w : World} {n : Bool} {ao : Option Addr} {len : Nat} {v : Int} (h : Num base w n ao len v) : ∃ L, Rd w ao len len L ∧ Top L ∧ num n L = v ∧ (L = [] → n = false) := by
  obtain ⟨L, h1, h2, h3, h4, h5, h6⟩ := h
  refine ⟨L, ?_, h2, h5, h4⟩
  rcases h3 with ⟨rfl, rfl, rfl⟩ | ⟨k1, rfl, g, k3, rfl, k5⟩
  · exact ⟨rfl, h1, Nat.le_refl _, by omega, fun h => by omega⟩
  · exact k5.whole h1 _ (Nat.le_refl _) h6
theorem num_nil (n : Bool) : num n [] = 0 := by cases n <;> rfl
theorem num_tl (n : Bool) (A : List Nat) : num n (tl A) = num n A := by unfold num; rw [tl_val]
theorem Num.zero (base : Nat) (w : World) : Num base w false none 0 0 := ⟨[], Ok.nil, fun h => absurd rfl h, .inl ⟨rfl, rfl, rfl⟩, fun _ => rfl, rfl, by simp⟩

theorem num_abs (n : Bool) (L : List Nat) : (num n L).natAbs = val L := by unfold num; cases n <;> simp

theorem blk_keep {w w1 : World} {o : Obj} (hb : Below (w.alloc o).heap.size (w.alloc o) w1) : w1.heap[w.heap.size]? = some o := by
  rw [hb.block _ (by simp)]; exact heap_alloc_new w _
theorem two_cells {w : World} {b : Nat} {x y : Value} {t : TypeId} (h : w.heap[b]? = some (.cells #[x, y] t (0, 0))) :
    w.cell? ⟨b, 0, none⟩ = some x ∧ w.cell? ⟨b, 1, none⟩ = some y ∧ w.frozen? ⟨b, 0, none⟩ = false ∧ w.frozen? ⟨b, 1, none⟩ = false :=
  ⟨by simp [World.cell?, h], by simp [World.cell?, h], by simp [World.frozen?, h], by simp [World.frozen?, h]⟩
theorem balloc {w w1 : World} {o : Obj} (hb : Below (w.alloc o).heap.size (w.alloc o) w1) : Below w.heap.size w w1 :=
  ((Below.refl _ _).alloc (Nat.le_refl _) _).trans (hb.mono (by simp))

theorem Num.set {base : Nat} {w : World} {n : Bool} {ao : Option Addr} {len : Nat} {v : Int} (h : Num base w n ao len v) {p : Addr} (hp : p.block < base) (u : Value) : Num base (w.setCell p u) n ao len v := by
  obtain ⟨L, h1, h2, h3, h4⟩ := h
  refine ⟨L, h1, h2, ?_, h4⟩
  rcases h3 with h | ⟨k1, k2, g, k3, k4, k5⟩
  · exact .inl h
  · exact .inr ⟨k1, k2, g, k3, k4, k5.other (by omega) _⟩

/-- The answer of a call that may find its number too long: the number, or nothing and the error. -/
def Fits (w w' : World) (n : Bool) (ao : Option Addr) (len : Nat) (c : Int) (v : Int) : Prop :=
  (bl v.natAbs ≤ 4096 ∧ c = 0 ∧ Num w.heap.size w' n ao len v) ∨ (4096 < bl v.natAbs ∧ c = 10 ∧ n = false ∧ ao = none ∧ len = 0)

end Go.Proofs.YtldafoojkimdeaaDoor

namespace Go.Proofs.YtldafoojkimdeaaDoor
open Go.RowKit Lm

set_option maxHeartbeats 400000 in
theorem trim_any (ao : Option Addr) (len cap : Nat) (A : List Nat) (w : World) (h : Rd w ao len cap A) :
    Calls Tryd.prog 71 #[.slice ao len cap] w fun e w' => e = .returned (.slice ao (tl A).length cap) ∧ w = w' := by
  have hl := h.size
  have hr := h.room
  have hm := h.most
  have HL := hid hl; clear hl
  go_enter Tryd.func71, Tryd.ntmps71
  go_wp2
  go_loop [3] (fun n => ∃ k : Nat, k ≤ len ∧ n = .int .i64 k ∧ Hid (tl (A.take k) = tl A)) (fun n => (intOf n).toNat)
  case atStart => exact ⟨len, Nat.le_refl _, rfl, by rw [List.take_of_length_le (Nat.le_of_eq HL.out)]; exact hid rfl⟩
  case round =>
    obtain ⟨k, hk, rfl, ht⟩ := hrel
    cases k with
    | zero =>
      have e0 : tl A = [] := by rw [← ht.out]; rfl
      have H0 := hid e0; clear e0
      go_wp2
      go_ret
      exact ⟨by rw [H0.out]; rfl, rfl⟩
    | succ m =>
      obtain ⟨b, off, rfl, hc⟩ := h.cells (by omega)
      have hcm := hc m (by omega)
      have hx := h.ok.dg m
      clear hc h
      by_cases hz : dg A m = 0
      · have hz' : ((dg A m : Int) == 0) = true := by simp [hz]
        have HZ := hid hz; clear hz
        go_wp2
        go_round
        case rel => exact ⟨m, by omega, by go_num, by rw [← tl_take_zero A m (by rw [HL.out]; omega) HZ.out]; exact ht⟩
        case measure => simp [intOf]
      · have hz' : ((dg A m : Int) == 0) = false := by simp [hz]
        have HT := hid (tl_take_top A m (by rw [HL.out]; omega) hz)
        clear hz
        go_wp2
        go_ret
        exact ⟨by rw [← ht.out, HT.out, List.length_take, HL.out, Nat.min_eq_left hk]; rfl, rfl⟩

end Go.Proofs.YtldafoojkimdeaaDoor

namespace Go.Proofs.YtldafoojkimdeaaDoor
open Go.RowKit Lm

theorem or_join (x y : Nat) (hx : x < 4294967296) (hy : y < 4294967296) : bits .or .u64 ((x : Int) * 4294967296) (y : Int) = ((x * 4294967296 + y : Nat) : Int) := by
  have e := u64_or_nat (x * 4294967296) y (by omega) (by omega)
  rw [nat_join 32 (x * 4294967296) y (by simp) (by simpa using hy)] at e
  rw [← e]
  simp

theorem take2_nil (A : List Nat) (k : Nat) (h : A.length ≤ k ∨ 2 ≤ k) : val ((A.take 2).drop k) = 0 := by
  rw [List.drop_eq_nil_of_le (by rw [List.length_take]; omega)]; rfl
theorem take2_step (A : List Nat) (m : Nat) (h : m + 1 ≤ 2) (h2 : m + 1 ≤ A.length) : val ((A.take 2).drop m) = val ((A.take 2).drop (m + 1)) * 4294967296 + dg A m := by
  have e : (A.take 2).drop m = dg A m :: (A.take 2).drop (m + 1) := by
    rw [List.drop_eq_getElem_cons (by rw [List.length_take]; omega)]
    congr 1
    unfold dg
    rw [getD_in _ _ (by omega), List.getElem_take]
  rw [e, val_cons]; omega
theorem take2_lt (A : List Nat) (hA : Ok A) : val (A.take 2) < 18446744073709551616 := by
  have := val_lt (hA.take 2)
  have h2 : P (A.take 2).length ≤ P 2 := P_le (by rw [List.length_take]; omega)
  have e : P 2 = 18446744073709551616 := by decide
  omega

set_option maxHeartbeats 400000 in
theorem wordOf_any (ao : Option Addr) (len cap : Nat) (A : List Nat) (w : World) (hRd : Rd w ao len cap A) :
    Calls Tryd.prog 72 #[.slice ao len cap] w fun e w' => e = .returned (.int .u64 ((val (A.take 2) : Nat) : Int)) ∧ w = w' := by
  have hl := hRd.size
  have hr := hRd.room
  have hm := hRd.most
  have HL := hid hl
  clear hl
  obtain ⟨L, hL⟩ : ∃ L, L = len := ⟨_, rfl⟩
  have hL1 : L ≤ len := by omega
  have HLL := hid hL; clear hL
  rcases (show len < 2 ∨ 2 < len ∨ 2 = len by omega) with h2 | h2 | rfl
  all_goals
    go_enter Tryd.func72, Tryd.ntmps72
    go_wp2
    go_loop [3, 4] (fun n i => ∃ k v : Nat, k ≤ 2 ∧ k ≤ L ∧ i = .int .i64 ((k : Int) - 1) ∧ Hid ((1 ≤ k → v < 4294967296) ∧ (2 ≤ k → v = 0)) ∧ Hid (v = val ((A.take 2).drop k)) ∧ n = .int .u64 (v : Int)) (fun _ i => (intOf i + 1).toNat)
    case atStart =>
      have h0 := take2_nil A
      have := HL.out
      have := HLL.out
      first
       | exact ⟨2, 0, by omega, by omega, rfl, hid ⟨fun _ => by decide, fun _ => rfl⟩, hid (h0 2 (by omega)).symm, rfl⟩
       | exact ⟨len, 0, by omega, by omega, rfl, hid ⟨fun _ => by decide, fun _ => rfl⟩, hid (h0 len (by omega)).symm, rfl⟩
    case round =>
      obtain ⟨k, v, hk, hk2, rfl, hv, hvv, rfl⟩ := hrel
      cases k with
      | zero =>
        clear hv
        go_wp2
        go_ret
        exact ⟨by rw [hvv.out]; rfl, rfl⟩
      | succ m =>
        obtain ⟨b, off, rfl, hc⟩ := hRd.cells (by omega)
        have hcm := hc m (by omega)
        have hx := hRd.ok.dg m
        have hv' := hv.out.1 (by omega)
        have hj := or_join v (dg A m) hv' hx
        clear hc
        go_wp2
        go_round
        case rel => exact ⟨m, v * 4294967296 + dg A m, by omega, by omega, by go_num, hid ⟨fun _ => by have := hv.out.2 (by omega); omega, fun _ => by omega⟩, hid (by rw [take2_step A m (by omega) (by have := HL.out; omega), ← hvv.out]), rfl⟩
        case measure => simp [intOf]
end Go.Proofs.YtldafoojkimdeaaDoor

namespace Go.Proofs.YtldafoojkimdeaaDoor
open Go.RowKit Lm

set_option maxHeartbeats 400000 in
theorem limbsOf_any (n : Nat) (w : World) (h : n < 18446744073709551616) :
    Calls Tryd.prog 70 #[.int .u64 (n : Int)] w fun e w' => ∃ g, e = .returned (.slice (some ⟨g, 0, none⟩) 2 2) ∧ w.heap.size ≤ g ∧ Rw w' g [n % 4294967296, n / 4294967296] ∧ Below w.heap.size w w' := by
  go_enter Tryd.func70, Tryd.ntmps70
  go_wp2
  go_ret
  have e : #[Value.int IntKind.u32 ((n : Int) % 4294967296), Value.int IntKind.u32 ((n : Int) / 4294967296)] = u32s [n % 4294967296, n / 4294967296] := by simp [u32s]
  rw [e]
  exact ⟨_, rfl, Nat.le_refl _, Rw.new _ _, (Below.refl _ _).alloc (Nat.le_refl _) _⟩

set_option maxRecDepth 100000 in
set_option maxHeartbeats 1000000 in
theorem sum_ge (aa : Option Addr) (la ca : Nat) (A : List Nat) (ab : Option Addr) (lb cb : Nat) (B : List Nat) (w : World) (hA : Rd w aa la ca A) (hB : Rd w ab lb cb B) (hge : lb ≤ la) (hsm : la ≤ 5000) :
    Calls Tryd.prog 84 #[.slice aa la ca, .slice ab lb cb] w fun e w' => ∃ g L, e = .returned (.slice (some ⟨g, 0, none⟩) (la + 1) (la + 1)) ∧ w.heap.size ≤ g ∧ Rw w' g L ∧ L.length = la + 1 ∧ Ok L ∧ val L = val A + val B ∧ Below w.heap.size w w' := by
  obtain ⟨i0, hi, hz0, hz1, hz2⟩ := info_parts Tryd.info43
  have hla := hid hA.size
  have hlb := hid hB.size
  go_enter Tryd.func84, Tryd.ntmps84
  go_wp2_with (at_make; refine wpList_make_full _ rfl _ _ 22 rfl w.heap.size 43 i0 (.int .u32 0) 1 Tryd.underlying22 hi hz0 hz1 .i64 .i64 _ _ (la + 1) rfl rfl (by omega) (by omega) ?c1 ?c2 ?c3 ?_)
  case c1 => rw [hz2]; omega
  case c2 => unfold maxLen; omega
  case c3 => exact Nat.le_refl _
  intro w1 hown hgrow
  have hrow : Rw w1 w.heap.size (List.replicate (la + 1) 0) := Rw.of_own hown (made_zeros _ _ (by omega))
  have hbel : Below w.heap.size w w1 := (Below.refl _ _).grown hgrow (Nat.le_refl _) (by intro k hk; simp at hk)
  clear hown hgrow hi hz0 hz1 hz2
  go_wp2
  go_loopw [6, 22] (fun c i wr => ∃ (k cv : Nat) (L : List Nat), k ≤ la ∧ i = .int .i64 (k : Int) ∧ c = .int .u64 (cv : Int) ∧ cv ≤ 1 ∧ Hid (L.length = k) ∧ Ok L ∧ Hid (val L + P k * cv = val (A.take k) + val (B.take k)) ∧
      Rw wr w.heap.size (L ++ List.replicate (la + 1 - k) 0) ∧ Below w.heap.size w wr) (fun _ i _ => la - (intOf i).toNat)
  case atStart => exact ⟨0, 0, [], by omega, rfl, rfl, by omega, hid rfl, Ok.nil, hid rfl, hrow, hbel⟩
  case round =>
    obtain ⟨k, cv, L, hk, rfl, rfl, hcv, hL, hok, hval, hR, hB1⟩ := hrel
    clear hrow hbel
    by_cases hlt : k < la
    · obtain ⟨b, off, rfl, hc⟩ := (hA.keep hB1).cells (by omega)
      have hcell := hc k hlt
      have hx := hA.ok.dg k
      have hfr := hR.free k
      have hsz : k < (L ++ List.replicate (la + 1 - k) 0).length := by rw [List.length_append, List.length_replicate, hL.out]; omega
      have hcur := hR.cell k hsz
      clear hc hsz
      by_cases hlb2 : k < lb
      · obtain ⟨b', off', rfl, hc'⟩ := (hB.keep hB1).cells (by omega)
        have hcell' := hc' k hlb2
        have hy := hB.ok.dg k
        clear hc'
        go_wp2
        go_roundw
        case rel =>
          refine ⟨k + 1, (cv + dg A k + dg B k) / 4294967296, L ++ [(cv + dg A k + dg B k) % 4294967296], by omega, by go_num, congrArg (Value.int .u64) (by omega), by omega, hid (by simp [hL.out]), hok.snoc (by omega), hid ?_, ?_, hB1.setCell (Nat.le_refl _) _⟩
          · rw [val_snoc, hL.out, P_succ, val_take_dg A k (by rw [hla.out]; omega), val_take_dg B k (by rw [hlb.out]; omega)]
            exact sum_step hval.out (by omega)
          · have := hR.set' k ((cv + dg A k + dg B k) % 4294967296) (z := ((cv : Int) + (dg A k : Int) + (dg B k : Int)) % 4294967296) (by omega)
            rw [← hL.out] at this ⊢
            rwa [set_snoc_zeros L (la + 1) _ (by rw [hL.out]; omega)] at this
        case measure => simp [intOf]; omega
      · go_wp2
        go_roundw
        case rel =>
          refine ⟨k + 1, (cv + dg A k) / 4294967296, L ++ [(cv + dg A k) % 4294967296], by omega, by go_num, congrArg (Value.int .u64) (by omega), by omega, hid (by simp [hL.out]), hok.snoc (by omega), hid ?_, ?_, hB1.setCell (Nat.le_refl _) _⟩
          · rw [val_snoc, hL.out, P_succ, val_take_dg A k (by rw [hla.out]; omega), val_take_ge B (k + 1) (by rw [hlb.out]; omega)]
            have hv := hval.out
            rw [val_take_ge B k (by rw [hlb.out]; omega)] at hv
            have := sum_step (y := 0) (o := (cv + dg A k) % 4294967296) (c' := (cv + dg A k) / 4294967296) (x := dg A k) hv (by omega)
            simpa using this
          · have := hR.set' k ((cv + dg A k) % 4294967296) (z := ((cv : Int) + (dg A k : Int)) % 4294967296) (by omega)
            rw [← hL.out] at this ⊢
            rwa [set_snoc_zeros L (la + 1) _ (by rw [hL.out]; omega)] at this
        case measure => simp [intOf]; omega
    · obtain rfl : k = la := by omega
      have hfr := hR.free k
      have hsz : k < (L ++ List.replicate (k + 1 - k) 0).length := by rw [List.length_append, List.length_replicate, hL.out]; omega
      have hcur := hR.cell k hsz
      clear hsz
      go_wp2
      go_ret
      refine ⟨_, L ++ [cv], rfl, Nat.le_refl _, ?_, by simp [hL.out], hok.snoc (by omega), ?_, hB1.setCell (Nat.le_refl _) _⟩
      · have := hR.set' k cv (z := (cv : Int)) rfl
        rw [← hL.out] at this ⊢
        rw [set_snoc_zeros L (L.length + 1) _ (by omega)] at this
        simpa using this
      · have hv := hval.out
        rw [val_take_ge A k (by rw [hla.out]; omega), val_take_ge B k (by rw [hlb.out]; omega)] at hv
        rw [val_snoc, hL.out, hv]

set_option maxRecDepth 100000 in
set_option maxHeartbeats 1000000 in
theorem sum_lt (aa : Option Addr) (la ca : Nat) (A : List Nat) (ab : Option Addr) (lb cb : Nat) (B : List Nat) (w : World) (hA : Rd w aa la ca A) (hB : Rd w ab lb cb B) (hge : lb < la) (hsm : la ≤ 5000) :
    Calls Tryd.prog 84 #[.slice ab lb cb, .slice aa la ca] w fun e w' => ∃ g L, e = .returned (.slice (some ⟨g, 0, none⟩) (la + 1) (la + 1)) ∧ w.heap.size ≤ g ∧ Rw w' g L ∧ L.length = la + 1 ∧ Ok L ∧ val L = val A + val B ∧ Below w.heap.size w w' := by
  obtain ⟨i0, hi, hz0, hz1, hz2⟩ := info_parts Tryd.info43
  have hla := hid hA.size
  have hlb := hid hB.size
  go_enter Tryd.func84, Tryd.ntmps84
  go_wp2_with (at_make; refine wpList_make_full _ rfl _ _ 22 rfl w.heap.size 43 i0 (.int .u32 0) 1 Tryd.underlying22 hi hz0 hz1 .i64 .i64 _ _ (la + 1) rfl rfl (by omega) (by omega) ?c1 ?c2 ?c3 ?_)
  case c1 => rw [hz2]; omega
  case c2 => unfold maxLen; omega
  case c3 => exact Nat.le_refl _
  intro w1 hown hgrow
  have hrow : Rw w1 w.heap.size (List.replicate (la + 1) 0) := Rw.of_own hown (made_zeros _ _ (by omega))
  have hbel : Below w.heap.size w w1 := (Below.refl _ _).grown hgrow (Nat.le_refl _) (by intro k hk; simp at hk)
  clear hown hgrow hi hz0 hz1 hz2
  go_wp2
  go_loopw [6, 22] (fun c i wr => ∃ (k cv : Nat) (L : List Nat), k ≤ la ∧ i = .int .i64 (k : Int) ∧ c = .int .u64 (cv : Int) ∧ cv ≤ 1 ∧ Hid (L.length = k) ∧ Ok L ∧ Hid (val L + P k * cv = val (A.take k) + val (B.take k)) ∧
      Rw wr w.heap.size (L ++ List.replicate (la + 1 - k) 0) ∧ Below w.heap.size w wr) (fun _ i _ => la - (intOf i).toNat)
  case atStart => exact ⟨0, 0, [], by omega, rfl, rfl, by omega, hid rfl, Ok.nil, hid rfl, hrow, hbel⟩
  case round =>
    obtain ⟨k, cv, L, hk, rfl, rfl, hcv, hL, hok, hval, hR, hB1⟩ := hrel
    clear hrow hbel
    by_cases hlt : k < la
    · obtain ⟨b, off, rfl, hc⟩ := (hA.keep hB1).cells (by omega)
      have hcell := hc k hlt
      have hx := hA.ok.dg k
      have hfr := hR.free k
      have hsz : k < (L ++ List.replicate (la + 1 - k) 0).length := by rw [List.length_append, List.length_replicate, hL.out]; omega
      have hcur := hR.cell k hsz
      clear hc hsz
      by_cases hlb2 : k < lb
      · obtain ⟨b', off', rfl, hc'⟩ := (hB.keep hB1).cells (by omega)
        have hcell' := hc' k hlb2
        have hy := hB.ok.dg k
        clear hc'
        go_wp2
        go_roundw
        case rel =>
          refine ⟨k + 1, (cv + dg A k + dg B k) / 4294967296, L ++ [(cv + dg A k + dg B k) % 4294967296], by omega, by go_num, congrArg (Value.int .u64) (by omega), by omega, hid (by simp [hL.out]), hok.snoc (by omega), hid ?_, ?_, hB1.setCell (Nat.le_refl _) _⟩
          · rw [val_snoc, hL.out, P_succ, val_take_dg A k (by rw [hla.out]; omega), val_take_dg B k (by rw [hlb.out]; omega)]
            exact sum_step hval.out (by omega)
          · have := hR.set' k ((cv + dg A k + dg B k) % 4294967296) (z := ((cv : Int) + (dg A k : Int) + (dg B k : Int)) % 4294967296) (by omega)
            rw [← hL.out] at this ⊢
            rwa [set_snoc_zeros L (la + 1) _ (by rw [hL.out]; omega)] at this
        case measure => simp [intOf]; omega
      · go_wp2
        go_roundw
        case rel =>
          refine ⟨k + 1, (cv + dg A k) / 4294967296, L ++ [(cv + dg A k) % 4294967296], by omega, by go_num, congrArg (Value.int .u64) (by omega), by omega, hid (by simp [hL.out]), hok.snoc (by omega), hid ?_, ?_, hB1.setCell (Nat.le_refl _) _⟩
          · rw [val_snoc, hL.out, P_succ, val_take_dg A k (by rw [hla.out]; omega), val_take_ge B (k + 1) (by rw [hlb.out]; omega)]
            have hv := hval.out
            rw [val_take_ge B k (by rw [hlb.out]; omega)] at hv
            have := sum_step (y := 0) (o := (cv + dg A k) % 4294967296) (c' := (cv + dg A k) / 4294967296) (x := dg A k) hv (by omega)
            simpa using this
          · have := hR.set' k ((cv + dg A k) % 4294967296) (z := ((cv : Int) + (dg A k : Int)) % 4294967296) (by omega)
            rw [← hL.out] at this ⊢
            rwa [set_snoc_zeros L (la + 1) _ (by rw [hL.out]; omega)] at this
        case measure => simp [intOf]; omega
    · obtain rfl : k = la := by omega
      have hfr := hR.free k
      have hsz : k < (L ++ List.replicate (k + 1 - k) 0).length := by rw [List.length_append, List.length_replicate, hL.out]; omega
      have hcur := hR.cell k hsz
      clear hsz
      go_wp2
      go_ret
      refine ⟨_, L ++ [cv], rfl, Nat.le_refl _, ?_, by simp [hL.out], hok.snoc (by omega), ?_, hB1.setCell (Nat.le_refl _) _⟩
      · have := hR.set' k cv (z := (cv : Int)) rfl
        rw [← hL.out] at this ⊢
        rw [set_snoc_zeros L (L.length + 1) _ (by omega)] at this
        simpa using this
      · have hv := hval.out
        rw [val_take_ge A k (by rw [hla.out]; omega), val_take_ge B k (by rw [hlb.out]; omega)] at hv
        rw [val_snoc, hL.out, hv]

theorem sum_any (aa : Option Addr) (la ca : Nat) (A : List Nat) (ab : Option Addr) (lb cb : Nat) (B : List Nat) (w : World) (hA : Rd w aa la ca A) (hB : Rd w ab lb cb B) (ha : la ≤ 5000) (hb : lb ≤ 5000) :
    Calls Tryd.prog 84 #[.slice aa la ca, .slice ab lb cb] w fun e w' => ∃ g L, e = .returned (.slice (some ⟨g, 0, none⟩) L.length L.length) ∧ w.heap.size ≤ g ∧ Rw w' g L ∧ L.length = max la lb + 1 ∧ Ok L ∧ val L = val A + val B ∧ Below w.heap.size w w' := by
  rcases Nat.lt_or_ge la lb with h | h
  · refine (sum_lt ab lb cb B aa la ca A w hB hA h hb).mono ?_
    rintro e w' ⟨g, L, rfl, h1, h2, h3, h4, h5, h6⟩
    exact ⟨g, L, by rw [h3], h1, h2, by omega, h4, by omega, h6⟩
  · refine (sum_ge aa la ca A ab lb cb B w hA hB h ha).mono ?_
    rintro e w' ⟨g, L, rfl, h1, h2, h3, h4, h5, h6⟩
    exact ⟨g, L, by rw [h3], h1, h2, by omega, h4, by omega, h6⟩
end Go.Proofs.YtldafoojkimdeaaDoor

namespace Go.Proofs.YtldafoojkimdeaaDoor
open Go.RowKit Lm

theorem wrap2 (x bv y : Nat) (_hx : x < 4294967296) (_hb : bv ≤ 1) (_hy : y < 4294967296) :
    IntKind.u64.wrap (IntKind.u64.wrap ((x : Int) - (bv : Int)) - (y : Int)) = ((x : Int) - bv - y) % 18446744073709551616 := by
  rw [IntKind.wrap_u64, IntKind.wrap_u64]; omega
theorem wrap1 (x bv : Nat) : IntKind.u64.wrap ((x : Int) - (bv : Int)) = ((x : Int) - bv) % 18446744073709551616 := by
  rw [IntKind.wrap_u64]

set_option maxRecDepth 100000 in
set_option maxHeartbeats 1000000 in
theorem difference_any (aa : Option Addr) (la ca : Nat) (A : List Nat) (ab : Option Addr) (lb cb : Nat) (B : List Nat) (w : World) (hA : Rd w aa la ca A) (hB : Rd w ab lb cb B) (hge : lb ≤ la) (hsm : la ≤ 5000) (hv0 : val B ≤ val A) :
    Calls Tryd.prog 85 #[.slice aa la ca, .slice ab lb cb] w fun e w' => ∃ g L, e = .returned (.slice (some ⟨g, 0, none⟩) L.length L.length) ∧ w.heap.size ≤ g ∧ Rw w' g L ∧ L.length = la ∧ Ok L ∧ val L + val B = val A ∧ Below w.heap.size w w' := by
  have hV := hid hv0
  clear hv0
  obtain ⟨i0, hi, hz0, hz1, hz2⟩ := info_parts Tryd.info43
  have hla := hid hA.size
  have hlb := hid hB.size
  go_enter Tryd.func85, Tryd.ntmps85
  go_wp2_with (at_make; refine wpList_make_full _ rfl _ _ 22 rfl w.heap.size 43 i0 (.int .u32 0) 1 Tryd.underlying22 hi hz0 hz1 .i64 .i64 _ _ la rfl rfl (by omega) (by omega) ?c1 ?c2 ?c3 ?_)
  case c1 => rw [hz2]; omega
  case c2 => unfold maxLen; omega
  case c3 => exact Nat.le_refl _
  intro w1 hown hgrow
  have hrow : Rw w1 w.heap.size (List.replicate la 0) := Rw.of_own hown (made_zeros _ _ (by omega))
  have hbel : Below w.heap.size w w1 := (Below.refl _ _).grown hgrow (Nat.le_refl _) (by intro k hk; simp at hk)
  clear hown hgrow hi hz0 hz1 hz2
  go_wp2
  go_loopw [6, 15] (fun c i wr => ∃ (k bv : Nat) (L : List Nat), k ≤ la ∧ i = .int .i64 (k : Int) ∧ c = .int .u64 (bv : Int) ∧ bv ≤ 1 ∧ Hid (L.length = k) ∧ Ok L ∧ Hid (val L + val (B.take k) = val (A.take k) + P k * bv) ∧
      Rw wr w.heap.size (L ++ List.replicate (la - k) 0) ∧ Below w.heap.size w wr) (fun _ i _ => la - (intOf i).toNat)
  case atStart => exact ⟨0, 0, [], by omega, rfl, rfl, by omega, hid rfl, Ok.nil, hid rfl, hrow, hbel⟩
  case round =>
    obtain ⟨k, bv, L, hk, rfl, rfl, hbv, hL, hok, hval, hR, hB1⟩ := hrel
    clear hrow hbel
    by_cases hlt : k < la
    · obtain ⟨b, off, rfl, hc⟩ := (hA.keep hB1).cells (by omega)
      have hcell := hc k hlt
      have hx := hA.ok.dg k
      have hfr := hR.free k
      have hsz : k < (L ++ List.replicate (la - k) 0).length := by rw [List.length_append, List.length_replicate, hL.out]; omega
      have hcur := hR.cell k hsz
      clear hc hsz
      by_cases hlb2 : k < lb
      · obtain ⟨b', off', rfl, hc'⟩ := (hB.keep hB1).cells (by omega)
        have hcell' := hc' k hlb2
        have hy := hB.ok.dg k
        clear hc'
        go_wp2
        go_roundw
        case rel =>
          refine ⟨k + 1, (bv + dg B k + 4294967295 - dg A k) / 4294967296, L ++ [dg A k + 4294967296 * ((bv + dg B k + 4294967295 - dg A k) / 4294967296) - bv - dg B k], by omega, by go_num, congrArg (Value.int .u64) ?_, by omega, hid (by simp [hL.out]), hok.snoc (by omega), hid ?_, ?_, hB1.setCell (Nat.le_refl _) _⟩
          · rw [wrap2 _ _ _ hx hbv hy]; omega
          · rw [val_snoc, hL.out, P_succ, val_take_dg A k (by rw [hla.out]; omega), val_take_dg B k (by rw [hlb.out]; omega)]
            exact diff_step hval.out (by omega)
          · have := hR.set' k (dg A k + 4294967296 * ((bv + dg B k + 4294967295 - dg A k) / 4294967296) - bv - dg B k) (z := (IntKind.u64.wrap (IntKind.u64.wrap ((dg A k : Int) - (bv : Int)) - (dg B k : Int))) % 4294967296) (by rw [wrap2 _ _ _ hx hbv hy]; omega)
            rw [← hL.out] at this ⊢
            rwa [set_snoc_zeros L la _ (by rw [hL.out]; omega)] at this
        case measure => simp [intOf]; omega
      · go_wp2
        go_roundw
        case rel =>
          refine ⟨k + 1, (bv + 4294967295 - dg A k) / 4294967296, L ++ [dg A k + 4294967296 * ((bv + 4294967295 - dg A k) / 4294967296) - bv], by omega, by go_num, congrArg (Value.int .u64) ?_, by omega, hid (by simp [hL.out]), hok.snoc (by omega), hid ?_, ?_, hB1.setCell (Nat.le_refl _) _⟩
          · rw [wrap1]; omega
          · rw [val_snoc, hL.out, P_succ, val_take_dg A k (by rw [hla.out]; omega), val_take_ge B (k + 1) (by rw [hlb.out]; omega)]
            have hv := hval.out
            rw [val_take_ge B k (by rw [hlb.out]; omega)] at hv
            have := diff_step (y := 0) (o := dg A k + 4294967296 * ((bv + 4294967295 - dg A k) / 4294967296) - bv) (c' := (bv + 4294967295 - dg A k) / 4294967296) (x := dg A k) hv (by omega)
            simpa using this
          · have := hR.set' k (dg A k + 4294967296 * ((bv + 4294967295 - dg A k) / 4294967296) - bv) (z := (IntKind.u64.wrap ((dg A k : Int) - (bv : Int))) % 4294967296) (by rw [wrap1]; omega)
            rw [← hL.out] at this ⊢
            rwa [set_snoc_zeros L la _ (by rw [hL.out]; omega)] at this
        case measure => simp [intOf]; omega
    · obtain rfl : k = la := by omega
      have hv := hval.out
      rw [val_take_ge A k (by rw [hla.out]; omega), val_take_ge B k (by rw [hlb.out]; omega)] at hv
      have hlt2 := val_lt hok
      rw [hL.out] at hlt2
      have hfin : val L + val B = val A := by
        have h0 : bv = 0 ∨ bv = 1 := by omega
        rcases h0 with rfl | rfl
        · omega
        · have := hV.out; omega
      have HF := hid hfin
      clear hfin hv hlt2
      go_wp2
      go_ret
      refine ⟨w.heap.size, L, by rw [hL.out]; rfl, Nat.le_refl _, ?_, hL.out, hok, HF.out, hB1⟩
      simpa using hR
end Go.Proofs.YtldafoojkimdeaaDoor

namespace Go.Proofs
open Go.Shelf
def Tryd.lays231_ren : Go.Shelf.Ren := ⟨fun | 231 => 120 | n => n, fun | 9 => 9 | 5 => 5 | 3 => 3 | 4 => 4 | n => n, fun | n => n⟩
theorem Tryd.lays231 : Go.Proofs.Lays.n231 Tryd.prog Tryd.lays231_ren := {
  mixed := by kernel_rfl
  f231 := Tryd.func120.trans (congrArg some (by kernel_rfl))
  t3 := Tryd.underlying3
  a3 := Tryd.isAgg3
  z3 := Tryd.sizeOf3
  v3 := Tryd.zeroValue3
  t4 := Tryd.underlying4
  a4 := Tryd.isAgg4
  z4 := Tryd.sizeOf4
  v4 := Tryd.zeroValue4
  t5 := Tryd.underlying5
  a5 := Tryd.isAgg5
  z5 := Tryd.sizeOf5
  v5 := Tryd.zeroValue5
  t9 := Tryd.underlying9
  a9 := Tryd.isAgg9
  z9 := Tryd.sizeOf9
  v9 := Tryd.zeroValue9 }
open Go.RowKit in
theorem Tryd.strings_trimLeftByte (s : ByteArray) (c : UInt8) (w : World) :
    Calls Tryd.prog 120 #[.string s, .int .u8 c.toNat] w fun e w' => e = .returned (.string ⟨(Lib.trimLeftB s.data.toList c).toArray⟩) ∧ w' = w := Any.strings_trimLeftByte Tryd.lays231 s c w
def Tryd.lays161_ren : Go.Shelf.Ren := ⟨fun | 161 => 102 | 231 => 120 | 227 => 121 | 233 => 122 | 235 => 123 | 228 => 130 | 197 => 131 | 151 => 132 | 260 => 133 | 152 => 134 | 137 => 135 | 119 => 136 | 224 => 137 | 225 => 138 | 217 => 139 | 266 => 140 | n => n, fun | 9 => 9 | 4 => 4 | 3 => 3 | 5 => 5 | 117 => 135 | 116 => 134 | 0 => 0 | 124 => 138 | 105 => 147 | 21 => 21 | 119 => 151 | 46 => 105 | 139 => 154 | 138 => 153 | n => n, fun | 3 => 0 | 4 => 1 | n => n⟩
theorem Tryd.lays161 : Go.Proofs.Lays.n161 Tryd.prog Tryd.lays161_ren := {
  mixed := by kernel_rfl
  f119 := Tryd.func136.trans (congrArg some (by kernel_rfl))
  f137 := Tryd.func135.trans (congrArg some (by kernel_rfl))
  f151 := Tryd.func132.trans (congrArg some (by kernel_rfl))
  f152 := Tryd.func134.trans (congrArg some (by kernel_rfl))
  f161 := Tryd.func102.trans (congrArg some (by kernel_rfl))
  f197 := Tryd.func131.trans (congrArg some (by kernel_rfl))
  f217 := Tryd.func139.trans (congrArg some (by kernel_rfl))
  f224 := Tryd.func137.trans (congrArg some (by kernel_rfl))
  f225 := Tryd.func138.trans (congrArg some (by kernel_rfl))
  f227 := Tryd.func121.trans (congrArg some (by kernel_rfl))
  f228 := Tryd.func130.trans (congrArg some (by kernel_rfl))
  f231 := Tryd.func120.trans (congrArg some (by kernel_rfl))
  f233 := Tryd.func122.trans (congrArg some (by kernel_rfl))
  f235 := Tryd.func123.trans (congrArg some (by kernel_rfl))
  f260 := Tryd.func133.trans (congrArg some (by kernel_rfl))
  f266 := Tryd.func140.trans (congrArg some (by kernel_rfl))
  t0 := Tryd.underlying0
  a0 := Tryd.isAgg0
  z0 := Tryd.sizeOf0
  v0 := Tryd.zeroValue0
  t3 := Tryd.underlying3
  a3 := Tryd.isAgg3
  z3 := Tryd.sizeOf3
  v3 := Tryd.zeroValue3
  t4 := Tryd.underlying4
  a4 := Tryd.isAgg4
  z4 := Tryd.sizeOf4
  v4 := Tryd.zeroValue4
  t5 := Tryd.underlying5
  a5 := Tryd.isAgg5
  z5 := Tryd.sizeOf5
  v5 := Tryd.zeroValue5
  t9 := Tryd.underlying9
  a9 := Tryd.isAgg9
  z9 := Tryd.sizeOf9
  v9 := Tryd.zeroValue9
  t21 := Tryd.underlying21
  a21 := Tryd.isAgg21
  z21 := Tryd.sizeOf21
  v21 := Tryd.zeroValue21
  t46 := Tryd.underlying105
  a46 := Tryd.isAgg105
  z46 := Tryd.sizeOf105
  v46 := Tryd.zeroValue105
  t105 := Tryd.underlying147
  a105 := Tryd.isAgg147
  z105 := Tryd.sizeOf147
  v105 := Tryd.zeroValue147
  t116 := Tryd.underlying134
  a116 := Tryd.isAgg134
  z116 := Tryd.sizeOf134
  t117 := Tryd.underlying135
  a117 := Tryd.isAgg135
  z117 := Tryd.sizeOf135
  v117 := Tryd.zeroValue135
  t119 := Tryd.underlying151
  a119 := Tryd.isAgg151
  z119 := Tryd.sizeOf151
  t124 := Tryd.underlying138
  a124 := Tryd.isAgg138
  z124 := Tryd.sizeOf138
  v124 := Tryd.zeroValue138
  t138 := Tryd.underlying153
  a138 := Tryd.isAgg153
  z138 := Tryd.sizeOf153
  v138 := Tryd.zeroValue153
  t139 := Tryd.underlying154
  a139 := Tryd.isAgg154
  z139 := Tryd.sizeOf154
  v139 := Tryd.zeroValue154
  g3 := by kernel_rfl
  g4 := by kernel_rfl }
open Go.RowKit in
theorem Tryd.strings_TrimLeft_one (s : ByteArray) (c : UInt8) (hc : c.toNat < 128) (w : World) :
    Calls Tryd.prog 102 #[.string s, .string ⟨#[c]⟩] w fun e w' => e = .returned (.string ⟨(Lib.trimLeftB s.data.toList c).toArray⟩) ∧ w' = w := Any.strings_TrimLeft_one Tryd.lays161 s c hc w
def Tryd.lays119_ren : Go.Shelf.Ren := ⟨fun | 119 => 136 | n => n, fun | 21 => 21 | 4 => 4 | n => n, fun | n => n⟩
theorem Tryd.lays119 : Go.Proofs.Lays.n119 Tryd.prog Tryd.lays119_ren := {
  mixed := by kernel_rfl
  f119 := Tryd.func136.trans (congrArg some (by kernel_rfl))
  t4 := Tryd.underlying4
  a4 := Tryd.isAgg4
  z4 := Tryd.sizeOf4
  v4 := Tryd.zeroValue4
  t21 := Tryd.underlying21
  a21 := Tryd.isAgg21
  z21 := Tryd.sizeOf21
  v21 := Tryd.zeroValue21 }
theorem Tryd.utf8_ValidRune (r : Int) (w : World) :
    Calls Tryd.prog 136 #[.int .i32 r] w fun e w' => e = .returned (.bool (Lib.validRune r)) ∧ w' = w := Any.utf8_ValidRune Tryd.lays119 r w
def Tryd.lays128_ren : Go.Shelf.Ren := ⟨fun | 128 => 111 | n => n, fun | 51 => 43 | 3 => 3 | 4 => 4 | 46 => 105 | 5 => 5 | 9 => 9 | n => n, fun | n => n⟩
theorem Tryd.lays128 : Go.Proofs.Lays.n128 Tryd.prog Tryd.lays128_ren := {
  mixed := by kernel_rfl
  f128 := Tryd.func111.trans (congrArg some (by kernel_rfl))
  t3 := Tryd.underlying3
  a3 := Tryd.isAgg3
  z3 := Tryd.sizeOf3
  v3 := Tryd.zeroValue3
  t4 := Tryd.underlying4
  a4 := Tryd.isAgg4
  z4 := Tryd.sizeOf4
  v4 := Tryd.zeroValue4
  t5 := Tryd.underlying5
  a5 := Tryd.isAgg5
  z5 := Tryd.sizeOf5
  v5 := Tryd.zeroValue5
  t9 := Tryd.underlying9
  a9 := Tryd.isAgg9
  z9 := Tryd.sizeOf9
  v9 := Tryd.zeroValue9
  t46 := Tryd.underlying105
  a46 := Tryd.isAgg105
  z46 := Tryd.sizeOf105
  v46 := Tryd.zeroValue105
  t51 := Tryd.underlying43
  a51 := Tryd.isAgg43
  z51 := Tryd.sizeOf43
  v51 := Tryd.zeroValue43 }
theorem Tryd.bits_Len32 (x : Int) (w : World) (h0 : 0 ≤ x) (h1 : x ≤ 4294967295) :
    Calls Tryd.prog 111 #[.int .u32 x] w fun e w' => e = .returned (.int .i64 (Lib.bitLen x.toNat)) ∧ w' = w := Any.bits_Len32 Tryd.lays128 x w h0 h1
def Tryd.lays125_ren : Go.Shelf.Ren := ⟨fun | 125 => 95 | 128 => 111 | 129 => 117 | n => n, fun | 46 => 105 | 3 => 3 | 51 => 43 | 53 => 68 | 4 => 4 | 5 => 5 | 9 => 9 | n => n, fun | n => n⟩
theorem Tryd.lays125 : Go.Proofs.Lays.n125 Tryd.prog Tryd.lays125_ren := {
  mixed := by kernel_rfl
  f125 := Tryd.func95.trans (congrArg some (by kernel_rfl))
  f128 := Tryd.func111.trans (congrArg some (by kernel_rfl))
  f129 := Tryd.func117.trans (congrArg some (by kernel_rfl))
  t3 := Tryd.underlying3
  a3 := Tryd.isAgg3
  z3 := Tryd.sizeOf3
  v3 := Tryd.zeroValue3
  t4 := Tryd.underlying4
  a4 := Tryd.isAgg4
  z4 := Tryd.sizeOf4
  v4 := Tryd.zeroValue4
  t5 := Tryd.underlying5
  a5 := Tryd.isAgg5
  z5 := Tryd.sizeOf5
  v5 := Tryd.zeroValue5
  t9 := Tryd.underlying9
  a9 := Tryd.isAgg9
  z9 := Tryd.sizeOf9
  v9 := Tryd.zeroValue9
  t46 := Tryd.underlying105
  a46 := Tryd.isAgg105
  z46 := Tryd.sizeOf105
  v46 := Tryd.zeroValue105
  t51 := Tryd.underlying43
  a51 := Tryd.isAgg43
  z51 := Tryd.sizeOf43
  v51 := Tryd.zeroValue43
  t53 := Tryd.underlying68
  a53 := Tryd.isAgg68
  z53 := Tryd.sizeOf68
  v53 := Tryd.zeroValue68 }
theorem Tryd.bits_Len (x : Int) (w : World) (h0 : 0 ≤ x) (h1 : x ≤ 18446744073709551615) :
    Calls Tryd.prog 95 #[.int .u64 x] w fun e w' => e = .returned (.int .i64 (Lib.bitLen x.toNat)) ∧ w' = w := Any.bits_Len Tryd.lays125 x w h0 h1
def Tryd.lays133_ren : Go.Shelf.Ren := ⟨fun | 133 => 115 | 128 => 111 | n => n, fun | 51 => 43 | 3 => 3 | 4 => 4 | 46 => 105 | 5 => 5 | 9 => 9 | n => n, fun | n => n⟩
theorem Tryd.lays133 : Go.Proofs.Lays.n133 Tryd.prog Tryd.lays133_ren := {
  mixed := by kernel_rfl
  f128 := Tryd.func111.trans (congrArg some (by kernel_rfl))
  f133 := Tryd.func115.trans (congrArg some (by kernel_rfl))
  t3 := Tryd.underlying3
  a3 := Tryd.isAgg3
  z3 := Tryd.sizeOf3
  v3 := Tryd.zeroValue3
  t4 := Tryd.underlying4
  a4 := Tryd.isAgg4
  z4 := Tryd.sizeOf4
  v4 := Tryd.zeroValue4
  t5 := Tryd.underlying5
  a5 := Tryd.isAgg5
  z5 := Tryd.sizeOf5
  v5 := Tryd.zeroValue5
  t9 := Tryd.underlying9
  a9 := Tryd.isAgg9
  z9 := Tryd.sizeOf9
  v9 := Tryd.zeroValue9
  t46 := Tryd.underlying105
  a46 := Tryd.isAgg105
  z46 := Tryd.sizeOf105
  v46 := Tryd.zeroValue105
  t51 := Tryd.underlying43
  a51 := Tryd.isAgg43
  z51 := Tryd.sizeOf43
  v51 := Tryd.zeroValue43 }
theorem Tryd.bits_LeadingZeros32 (x : Int) (w : World) (h0 : 0 ≤ x) (h1 : x ≤ 4294967295) :
    Calls Tryd.prog 115 #[.int .u32 x] w fun e w' => e = .returned (.int .i64 (32 - (Lib.bitLen x.toNat : Int))) ∧ w' = w := Any.bits_LeadingZeros32 Tryd.lays133 x w h0 h1
def Tryd.lays137_ren : Go.Shelf.Ren := ⟨fun | 137 => 135 | 217 => 139 | 266 => 140 | n => n, fun | 9 => 9 | 5 => 5 | 3 => 3 | n => n, fun | n => n⟩
theorem Tryd.lays137 : Go.Proofs.Lays.n137 Tryd.prog Tryd.lays137_ren := {
  mixed := by kernel_rfl
  f137 := Tryd.func135.trans (congrArg some (by kernel_rfl))
  f217 := Tryd.func139.trans (congrArg some (by kernel_rfl))
  f266 := Tryd.func140.trans (congrArg some (by kernel_rfl))
  t3 := Tryd.underlying3
  a3 := Tryd.isAgg3
  z3 := Tryd.sizeOf3
  v3 := Tryd.zeroValue3
  t5 := Tryd.underlying5
  a5 := Tryd.isAgg5
  z5 := Tryd.sizeOf5
  v5 := Tryd.zeroValue5
  t9 := Tryd.underlying9
  a9 := Tryd.isAgg9
  z9 := Tryd.sizeOf9
  v9 := Tryd.zeroValue9 }
open Go.RowKit in
theorem Tryd.strings_IndexByte (s : ByteArray) (c : Int) (w : World) :
    Calls Tryd.prog 135 #[.string s, .int .u8 c] w fun e w' => e = .returned (.int .i64 (Lib.indexByte s.data.toList c.toNat.toUInt8)) ∧ w' = w := Any.strings_IndexByte Tryd.lays137 s c w
def Tryd.lays210_ren : Go.Shelf.Ren := ⟨fun | 210 => 118 | 206 => 129 | n => n, fun | 9 => 9 | 4 => 4 | 3 => 3 | n => n, fun | n => n⟩
theorem Tryd.lays210 : Go.Proofs.Lays.n210 Tryd.prog Tryd.lays210_ren := {
  mixed := by kernel_rfl
  f206 := Tryd.func129.trans (congrArg some (by kernel_rfl))
  f210 := Tryd.func118.trans (congrArg some (by kernel_rfl))
  t3 := Tryd.underlying3
  a3 := Tryd.isAgg3
  z3 := Tryd.sizeOf3
  v3 := Tryd.zeroValue3
  t4 := Tryd.underlying4
  a4 := Tryd.isAgg4
  z4 := Tryd.sizeOf4
  v4 := Tryd.zeroValue4
  t9 := Tryd.underlying9
  a9 := Tryd.isAgg9
  z9 := Tryd.sizeOf9
  v9 := Tryd.zeroValue9 }
open Go.RowKit in
theorem Tryd.stringslite_CutPrefix (s p : ByteArray) (w : World) :
    Calls Tryd.prog 118 #[.string s, .string p] w fun e w' => e = .returned (.tuple #[.string ⟨(Lib.trimPrefix s.data.toList p.data.toList).toArray⟩, .bool (Lib.hasPrefix s.data.toList p.data.toList)]) ∧ w' = w := Any.stringslite_CutPrefix Tryd.lays210 s p w
def Tryd.lays103_ren : Go.Shelf.Ren := ⟨fun | 103 => 100 | 210 => 118 | 206 => 129 | n => n, fun | 9 => 9 | 4 => 4 | 24 => 110 | 3 => 3 | n => n, fun | n => n⟩
theorem Tryd.lays103 : Go.Proofs.Lays.n103 Tryd.prog Tryd.lays103_ren := {
  mixed := by kernel_rfl
  f103 := Tryd.func100.trans (congrArg some (by kernel_rfl))
  f206 := Tryd.func129.trans (congrArg some (by kernel_rfl))
  f210 := Tryd.func118.trans (congrArg some (by kernel_rfl))
  t3 := Tryd.underlying3
  a3 := Tryd.isAgg3
  z3 := Tryd.sizeOf3
  v3 := Tryd.zeroValue3
  t4 := Tryd.underlying4
  a4 := Tryd.isAgg4
  z4 := Tryd.sizeOf4
  v4 := Tryd.zeroValue4
  t9 := Tryd.underlying9
  a9 := Tryd.isAgg9
  z9 := Tryd.sizeOf9
  v9 := Tryd.zeroValue9
  t24 := Tryd.underlying110
  a24 := Tryd.isAgg110
  z24 := Tryd.sizeOf110
  v24 := Tryd.zeroValue110 }
open Go.RowKit in
theorem Tryd.strings_CutPrefix (s p : ByteArray) (w : World) :
    Calls Tryd.prog 100 #[.string s, .string p] w fun e w' => e = .returned (.tuple #[.string ⟨(Lib.trimPrefix s.data.toList p.data.toList).toArray⟩, .bool (Lib.hasPrefix s.data.toList p.data.toList)]) ∧ w' = w := Any.strings_CutPrefix Tryd.lays103 s p w
def Tryd.lays129_ren : Go.Shelf.Ren := ⟨fun | 129 => 117 | n => n, fun | 53 => 68 | 3 => 3 | 4 => 4 | 46 => 105 | 5 => 5 | 9 => 9 | n => n, fun | n => n⟩
theorem Tryd.lays129 : Go.Proofs.Lays.n129 Tryd.prog Tryd.lays129_ren := {
  mixed := by kernel_rfl
  f129 := Tryd.func117.trans (congrArg some (by kernel_rfl))
  t3 := Tryd.underlying3
  a3 := Tryd.isAgg3
  z3 := Tryd.sizeOf3
  v3 := Tryd.zeroValue3
  t4 := Tryd.underlying4
  a4 := Tryd.isAgg4
  z4 := Tryd.sizeOf4
  v4 := Tryd.zeroValue4
  t5 := Tryd.underlying5
  a5 := Tryd.isAgg5
  z5 := Tryd.sizeOf5
  v5 := Tryd.zeroValue5
  t9 := Tryd.underlying9
  a9 := Tryd.isAgg9
  z9 := Tryd.sizeOf9
  v9 := Tryd.zeroValue9
  t46 := Tryd.underlying105
  a46 := Tryd.isAgg105
  z46 := Tryd.sizeOf105
  v46 := Tryd.zeroValue105
  t53 := Tryd.underlying68
  a53 := Tryd.isAgg68
  z53 := Tryd.sizeOf68
  v53 := Tryd.zeroValue68 }
theorem Tryd.bits_Len64 (x : Int) (w : World) (h0 : 0 ≤ x) (h1 : x ≤ 18446744073709551615) :
    Calls Tryd.prog 117 #[.int .u64 x] w fun e w' => e = .returned (.int .i64 (Lib.bitLen x.toNat)) ∧ w' = w := Any.bits_Len64 Tryd.lays129 x w h0 h1
def Tryd.lays217_ren : Go.Shelf.Ren := ⟨fun | 217 => 139 | 266 => 140 | n => n, fun | 9 => 9 | 5 => 5 | 3 => 3 | n => n, fun | n => n⟩
theorem Tryd.lays217 : Go.Proofs.Lays.n217 Tryd.prog Tryd.lays217_ren := {
  mixed := by kernel_rfl
  f217 := Tryd.func139.trans (congrArg some (by kernel_rfl))
  f266 := Tryd.func140.trans (congrArg some (by kernel_rfl))
  t3 := Tryd.underlying3
  a3 := Tryd.isAgg3
  z3 := Tryd.sizeOf3
  v3 := Tryd.zeroValue3
  t5 := Tryd.underlying5
  a5 := Tryd.isAgg5
  z5 := Tryd.sizeOf5
  v5 := Tryd.zeroValue5
  t9 := Tryd.underlying9
  a9 := Tryd.isAgg9
  z9 := Tryd.sizeOf9
  v9 := Tryd.zeroValue9 }
open Go.RowKit Go.Lib in
theorem Tryd.stringslite_IndexByte (s : ByteArray) (c : Int) (w : World) :
    Calls Tryd.prog 139 #[.string s, .int .u8 c] w fun e w' => e = .returned (.int .i64 (Lib.indexByte s.data.toList c.toNat.toUInt8)) ∧ w' = w := Any.stringslite_IndexByte Tryd.lays217 s c w
def Tryd.lays224_ren : Go.Shelf.Ren := ⟨fun | 224 => 137 | n => n, fun | 3 => 3 | n => n, fun | n => n⟩
theorem Tryd.lays224 : Go.Proofs.Lays.n224 Tryd.prog Tryd.lays224_ren := {
  mixed := by kernel_rfl
  f224 := Tryd.func137.trans (congrArg some (by kernel_rfl))
  t3 := Tryd.underlying3
  a3 := Tryd.isAgg3
  z3 := Tryd.sizeOf3
  v3 := Tryd.zeroValue3 }
open Go.RowKit Go.Lib in
theorem Tryd.bytealg_Cutover (n : Int) (h0 : 0 ≤ n) (h1 : n < 4611686018427387904) (w : World) :
    Calls Tryd.prog 137 #[.int .i64 n] w fun e w' => e = .returned (.int .i64 ((n + 16) / 8)) ∧ w' = w := Any.bytealg_Cutover Tryd.lays224 n h0 h1 w
def Tryd.lays206_ren : Go.Shelf.Ren := ⟨fun | 206 => 129 | n => n, fun | 9 => 9 | 4 => 4 | 3 => 3 | n => n, fun | n => n⟩
theorem Tryd.lays206 : Go.Proofs.Lays.n206 Tryd.prog Tryd.lays206_ren := {
  mixed := by kernel_rfl
  f206 := Tryd.func129.trans (congrArg some (by kernel_rfl))
  t3 := Tryd.underlying3
  a3 := Tryd.isAgg3
  z3 := Tryd.sizeOf3
  v3 := Tryd.zeroValue3
  t4 := Tryd.underlying4
  a4 := Tryd.isAgg4
  z4 := Tryd.sizeOf4
  v4 := Tryd.zeroValue4
  t9 := Tryd.underlying9
  a9 := Tryd.isAgg9
  z9 := Tryd.sizeOf9
  v9 := Tryd.zeroValue9 }
open Go.RowKit Go.Lib in
theorem Tryd.stringslite_HasPrefix (s p : ByteArray) (w : World) :
    Calls Tryd.prog 129 #[.string s, .string p] w fun e w' => e = .returned (.bool (Lib.hasPrefix s.data.toList p.data.toList)) ∧ w' = w := Any.stringslite_HasPrefix Tryd.lays206 s p w
def Tryd.lays152_ren : Go.Shelf.Ren := ⟨fun | 152 => 134 | 137 => 135 | 119 => 136 | 224 => 137 | 225 => 138 | 217 => 139 | 266 => 140 | n => n, fun | 9 => 9 | 21 => 21 | 3 => 3 | 4 => 4 | 5 => 5 | 0 => 0 | 46 => 105 | n => n, fun | n => n⟩
theorem Tryd.lays152 : Go.Proofs.Lays.n152 Tryd.prog Tryd.lays152_ren := {
  mixed := by kernel_rfl
  f119 := Tryd.func136.trans (congrArg some (by kernel_rfl))
  f137 := Tryd.func135.trans (congrArg some (by kernel_rfl))
  f152 := Tryd.func134.trans (congrArg some (by kernel_rfl))
  f217 := Tryd.func139.trans (congrArg some (by kernel_rfl))
  f224 := Tryd.func137.trans (congrArg some (by kernel_rfl))
  f225 := Tryd.func138.trans (congrArg some (by kernel_rfl))
  f266 := Tryd.func140.trans (congrArg some (by kernel_rfl))
  t0 := Tryd.underlying0
  a0 := Tryd.isAgg0
  z0 := Tryd.sizeOf0
  v0 := Tryd.zeroValue0
  t3 := Tryd.underlying3
  a3 := Tryd.isAgg3
  z3 := Tryd.sizeOf3
  v3 := Tryd.zeroValue3
  t4 := Tryd.underlying4
  a4 := Tryd.isAgg4
  z4 := Tryd.sizeOf4
  v4 := Tryd.zeroValue4
  t5 := Tryd.underlying5
  a5 := Tryd.isAgg5
  z5 := Tryd.sizeOf5
  v5 := Tryd.zeroValue5
  t9 := Tryd.underlying9
  a9 := Tryd.isAgg9
  z9 := Tryd.sizeOf9
  v9 := Tryd.zeroValue9
  t21 := Tryd.underlying21
  a21 := Tryd.isAgg21
  z21 := Tryd.sizeOf21
  v21 := Tryd.zeroValue21
  t46 := Tryd.underlying105
  a46 := Tryd.isAgg105
  z46 := Tryd.sizeOf105
  v46 := Tryd.zeroValue105 }
open Go.RowKit Go.Lib in
theorem Tryd.strings_IndexRune_ascii (s : ByteArray) (r : Int) (w : World) (h0 : 0 ≤ r) (h1 : r < 128) :
    Calls Tryd.prog 134 #[.string s, .int .i32 r] w fun e w' => e = .returned (.int .i64 (Lib.indexByte s.data.toList r.toNat.toUInt8)) ∧ w' = w := Any.strings_IndexRune_ascii Tryd.lays152 s r w h0 h1
def Tryd.lays151_ren : Go.Shelf.Ren := ⟨fun | 151 => 132 | 152 => 134 | 137 => 135 | 119 => 136 | 224 => 137 | 225 => 138 | 217 => 139 | 266 => 140 | n => n, fun | 9 => 9 | 21 => 21 | 4 => 4 | 3 => 3 | 5 => 5 | 0 => 0 | 46 => 105 | n => n, fun | n => n⟩
theorem Tryd.lays151 : Go.Proofs.Lays.n151 Tryd.prog Tryd.lays151_ren := {
  mixed := by kernel_rfl
  f119 := Tryd.func136.trans (congrArg some (by kernel_rfl))
  f137 := Tryd.func135.trans (congrArg some (by kernel_rfl))
  f151 := Tryd.func132.trans (congrArg some (by kernel_rfl))
  f152 := Tryd.func134.trans (congrArg some (by kernel_rfl))
  f217 := Tryd.func139.trans (congrArg some (by kernel_rfl))
  f224 := Tryd.func137.trans (congrArg some (by kernel_rfl))
  f225 := Tryd.func138.trans (congrArg some (by kernel_rfl))
  f266 := Tryd.func140.trans (congrArg some (by kernel_rfl))
  t0 := Tryd.underlying0
  a0 := Tryd.isAgg0
  z0 := Tryd.sizeOf0
  v0 := Tryd.zeroValue0
  t3 := Tryd.underlying3
  a3 := Tryd.isAgg3
  z3 := Tryd.sizeOf3
  v3 := Tryd.zeroValue3
  t4 := Tryd.underlying4
  a4 := Tryd.isAgg4
  z4 := Tryd.sizeOf4
  v4 := Tryd.zeroValue4
  t5 := Tryd.underlying5
  a5 := Tryd.isAgg5
  z5 := Tryd.sizeOf5
  v5 := Tryd.zeroValue5
  t9 := Tryd.underlying9
  a9 := Tryd.isAgg9
  z9 := Tryd.sizeOf9
  v9 := Tryd.zeroValue9
  t21 := Tryd.underlying21
  a21 := Tryd.isAgg21
  z21 := Tryd.sizeOf21
  v21 := Tryd.zeroValue21
  t46 := Tryd.underlying105
  a46 := Tryd.isAgg105
  z46 := Tryd.sizeOf105
  v46 := Tryd.zeroValue105 }
open Go.RowKit Go.Lib in
theorem Tryd.strings_ContainsRune_ascii (s : ByteArray) (r : Int) (w : World) (h0 : 0 ≤ r) (h1 : r < 128) :
    Calls Tryd.prog 132 #[.string s, .int .i32 r] w fun e w' => e = .returned (.bool (decide (0 ≤ Lib.indexByte s.data.toList r.toNat.toUInt8))) ∧ w' = w := Any.strings_ContainsRune_ascii Tryd.lays151 s r w h0 h1
def Tryd.lays227_ren : Go.Shelf.Ren := ⟨fun | 227 => 121 | n => n, fun | 9 => 9 | 116 => 134 | 4 => 4 | 0 => 0 | 3 => 3 | 5 => 5 | n => n, fun | n => n⟩
theorem Tryd.lays227 : Go.Proofs.Lays.n227 Tryd.prog Tryd.lays227_ren := {
  mixed := by kernel_rfl
  f227 := Tryd.func121.trans (congrArg some (by kernel_rfl))
  t0 := Tryd.underlying0
  a0 := Tryd.isAgg0
  z0 := Tryd.sizeOf0
  v0 := Tryd.zeroValue0
  t3 := Tryd.underlying3
  a3 := Tryd.isAgg3
  z3 := Tryd.sizeOf3
  v3 := Tryd.zeroValue3
  t4 := Tryd.underlying4
  a4 := Tryd.isAgg4
  z4 := Tryd.sizeOf4
  v4 := Tryd.zeroValue4
  t5 := Tryd.underlying5
  a5 := Tryd.isAgg5
  z5 := Tryd.sizeOf5
  v5 := Tryd.zeroValue5
  t9 := Tryd.underlying9
  a9 := Tryd.isAgg9
  z9 := Tryd.sizeOf9
  v9 := Tryd.zeroValue9
  t116 := Tryd.underlying134
  a116 := Tryd.isAgg134
  z116 := Tryd.sizeOf134 }
open Go.RowKit Go.Lib in
theorem Tryd.strings_makeASCIISet (hv116 : ∀ w, (zeroValue 134).run Tryd.prog w = .ok (.agg (Array.replicate 256 (.bool false))) w) (chars : ByteArray) (w : World) (hs : chars.size < 4294967281) (hascii : ∀ (j : Nat) b, chars.data.toList[j]? = some b → b.toNat < 128) :
    Calls Tryd.prog 121 #[.string chars] w fun e w' => e = .returned (.tuple #[.agg (Lib.setCells chars.data.toList), .bool true]) ∧ w' = w.alloc (.cells (Lib.setCells chars.data.toList) 134) := Any.strings_makeASCIISet Tryd.lays227 hv116 (by kernel_rfl) chars w hs hascii
def Tryd.lays228_ren : Go.Shelf.Ren := ⟨fun | 228 => 130 | n => n, fun | 124 => 138 | 5 => 5 | 4 => 4 | 0 => 0 | 116 => 134 | n => n, fun | n => n⟩
theorem Tryd.lays228 : Go.Proofs.Lays.n228 Tryd.prog Tryd.lays228_ren := {
  mixed := by kernel_rfl
  f228 := Tryd.func130.trans (congrArg some (by kernel_rfl))
  t0 := Tryd.underlying0
  a0 := Tryd.isAgg0
  z0 := Tryd.sizeOf0
  v0 := Tryd.zeroValue0
  t4 := Tryd.underlying4
  a4 := Tryd.isAgg4
  z4 := Tryd.sizeOf4
  v4 := Tryd.zeroValue4
  t5 := Tryd.underlying5
  a5 := Tryd.isAgg5
  z5 := Tryd.sizeOf5
  v5 := Tryd.zeroValue5
  t116 := Tryd.underlying134
  a116 := Tryd.isAgg134
  z116 := Tryd.sizeOf134
  t124 := Tryd.underlying138
  a124 := Tryd.isAgg138
  z124 := Tryd.sizeOf138
  v124 := Tryd.zeroValue138 }
open Go.RowKit Go.Lib in
theorem Tryd.asciiSet_contains (b : Nat) (x : UInt8) (v : Bool) (w : World) (hc : w.cell? ⟨b, x.toNat, none⟩ = some (.bool v)) :
    Calls Tryd.prog 130 #[.pointer (some ⟨b, 0, none⟩), .int .u8 x.toNat] w fun e w' => e = .returned (.bool v) ∧ w' = w := Any.asciiSet_contains Tryd.lays228 b x v w hc
def Tryd.lays260_ren : Go.Shelf.Ren := ⟨fun | 260 => 133 | n => n, fun | 9 => 9 | 21 => 21 | 3 => 3 | 4 => 4 | 5 => 5 | 119 => 151 | 0 => 0 | 46 => 105 | 139 => 154 | 138 => 153 | n => n, fun | 3 => 0 | 4 => 1 | n => n⟩
theorem Tryd.lays260 : Go.Proofs.Lays.n260 Tryd.prog Tryd.lays260_ren := {
  mixed := by kernel_rfl
  f260 := Tryd.func133.trans (congrArg some (by kernel_rfl))
  t0 := Tryd.underlying0
  a0 := Tryd.isAgg0
  z0 := Tryd.sizeOf0
  v0 := Tryd.zeroValue0
  t3 := Tryd.underlying3
  a3 := Tryd.isAgg3
  z3 := Tryd.sizeOf3
  v3 := Tryd.zeroValue3
  t4 := Tryd.underlying4
  a4 := Tryd.isAgg4
  z4 := Tryd.sizeOf4
  v4 := Tryd.zeroValue4
  t5 := Tryd.underlying5
  a5 := Tryd.isAgg5
  z5 := Tryd.sizeOf5
  v5 := Tryd.zeroValue5
  t9 := Tryd.underlying9
  a9 := Tryd.isAgg9
  z9 := Tryd.sizeOf9
  v9 := Tryd.zeroValue9
  t21 := Tryd.underlying21
  a21 := Tryd.isAgg21
  z21 := Tryd.sizeOf21
  v21 := Tryd.zeroValue21
  t46 := Tryd.underlying105
  a46 := Tryd.isAgg105
  z46 := Tryd.sizeOf105
  v46 := Tryd.zeroValue105
  t119 := Tryd.underlying151
  a119 := Tryd.isAgg151
  z119 := Tryd.sizeOf151
  t138 := Tryd.underlying153
  a138 := Tryd.isAgg153
  z138 := Tryd.sizeOf153
  v138 := Tryd.zeroValue153
  t139 := Tryd.underlying154
  a139 := Tryd.isAgg154
  z139 := Tryd.sizeOf154
  v139 := Tryd.zeroValue154
  g3 := by kernel_rfl
  g4 := by kernel_rfl }
open Go.RowKit Go.Lib in
theorem Tryd.utf8_decodeRuneInStringSlow (s : ByteArray) (w : World) (hT : Lib.Utf8Tabs 0 1 w) :
    Calls Tryd.prog 133 #[.string s] w fun e w' => e = .returned (.tuple #[.int .i32 (Lib.decodeGo s).1, .int .i64 (Lib.decodeGo s).2]) ∧ Below w.heap.size w w' := Any.utf8_decodeRuneInStringSlow Tryd.lays260 s w hT
end Go.Proofs

namespace Go.Proofs.YtldafoojkimdeaaDoor
open Go.RowKit Lm

theorem bl_half (x : Nat) (h : x ≠ 0) : bl x = 1 + bl (x / 2) := by
  have h1 := (bl_le (x / 2) (bl (x / 2))).1 (Nat.le_refl _)
  apply bl_unique
  · rw [Nat.add_comm, Nat.pow_succ]; omega
  · by_cases h2 : x / 2 = 0
    · have : bl (x / 2) = 0 := by rw [h2]; rfl
      rw [this]; simp; omega
    · have hp : bl (x / 2) ≠ 0 := by unfold bl; rw [if_neg h2]; omega
      have h3 := mt (bl_le (x / 2) (bl (x / 2) - 1)).2 (by omega)
      have e : 2 ^ (1 + bl (x / 2)) = 2 * (2 * 2 ^ (bl (x / 2) - 1)) := by rw [← Nat.pow_succ', ← Nat.pow_succ']; congr 1; omega
      rw [e]; omega
theorem bl_aux (f : Nat) : ∀ x : Nat, x < 2 ^ f → Lib.bitLenAux f x = bl x := by
  induction f with
  | zero => intro x h; have : x = 0 := by simpa using h
            subst this; rfl
  | succ f ih =>
    intro x h
    rw [Lib.bitLenAux]
    split
    · rename_i h0; subst h0; rfl
    · rename_i h0; rw [ih (x / 2) (by rw [Nat.pow_succ] at h; omega), bl_half x h0]
theorem bl_lib (n : Nat) (h : n < 18446744073709551616) : Lib.bitLen n = bl n := bl_aux 64 n h

theorem len32_any (x : Nat) (w : World) (h : x < 4294967296) :
    Calls Tryd.prog 111 #[.int .u32 (x : Int)] w fun e w' => e = .returned (.int .i64 (bl x : Int)) ∧ w = w' := by
  refine (Tryd.bits_Len32 _ w (by omega) (by omega)).mono ?_
  rintro e w' ⟨rfl, rfl⟩
  rw [← bl_lib x (by omega)]; exact ⟨by simp, rfl⟩
theorem len64_any (x : Nat) (w : World) (h : x < 18446744073709551616) :
    Calls Tryd.prog 117 #[.int .u64 (x : Int)] w fun e w' => e = .returned (.int .i64 (bl x : Int)) ∧ w = w' := by
  refine (Tryd.bits_Len64 _ w (by omega) (by omega)).mono ?_
  rintro e w' ⟨rfl, rfl⟩
  rw [← bl_lib x (by omega)]; exact ⟨by simp, rfl⟩
theorem len_any (x : Nat) (w : World) (h : x < 18446744073709551616) :
    Calls Tryd.prog 95 #[.int .u64 (x : Int)] w fun e w' => e = .returned (.int .i64 (bl x : Int)) ∧ w = w' := by
  refine (Tryd.bits_Len _ w (by omega) (by omega)).mono ?_
  rintro e w' ⟨rfl, rfl⟩
  rw [← bl_lib x (by omega)]; exact ⟨by simp, rfl⟩
theorem zeros32_any (x : Nat) (w : World) (h : x < 4294967296) :
    Calls Tryd.prog 115 #[.int .u32 (x : Int)] w fun e w' => e = .returned (.int .i64 (32 - (bl x : Int))) ∧ w = w' := by
  refine (Tryd.bits_LeadingZeros32 _ w (by omega) (by omega)).mono ?_
  rintro e w' ⟨rfl, rfl⟩
  rw [← bl_lib x (by omega)]; exact ⟨by simp, rfl⟩

theorem bl_32 (x : Nat) (h : x < 4294967296) : bl x ≤ 32 := (bl_le x 32).2 (by simpa using h)

set_option maxHeartbeats 400000 in
theorem bitsOf_any (ao : Option Addr) (len cap : Nat) (A : List Nat) (w : World) (h : Rd w ao len cap A) (ht : Top A) :
    Calls Tryd.prog 75 #[.slice ao len cap] w fun e w' => e = .returned (.int .i64 (bl (val A) : Int)) ∧ w = w' := by
  have hl := h.size
  have hr := h.room
  have hm := h.most
  have hb := bl_dg h.ok ht
  cases len with
  | zero =>
    have e : bl (val A) = 0 := by rw [List.eq_nil_of_length_eq_zero hl]; rfl
    rw [e]; clear e hl
    go_enter Tryd.func75, Tryd.ntmps75
    go_wp2
    go_ret
    exact ⟨rfl, rfl⟩
  | succ m =>
    obtain ⟨b, off, rfl, hc⟩ := h.cells (by omega)
    have hcm := hc m (by omega)
    have hx := h.ok.dg m
    have hx2 := bl_32 _ hx
    have hlast := hid (hb (by intro e; subst e; simp at hl))
    have HL := hid hl
    clear hl hb hc h ht
    go_enter Tryd.func75, Tryd.ntmps75
    go_wp2_with (go_at_call 111; refine (len32_any _ _ hx).mono ?_; rintro e w' ⟨rfl, rfl⟩)
    go_ret
    refine ⟨?_, rfl⟩
    rw [hlast.out, HL.out]
    exact congrArg (fun z => Ending.returned (.int .i64 z)) (by simp)
end Go.Proofs.YtldafoojkimdeaaDoor
