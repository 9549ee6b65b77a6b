/- Plain mathematics: a list of bits (the lowest first) stands for a number; what the loops of the document's answer do to such lists. No condition but those that each theorem names. -/
import Derived.Test.YtldafoojkimdeaaDoorLimbs
namespace Lm

/-- The number that bits make. -/
def bv : List Nat → Nat
  | [] => 0
  | x :: l => x + 2 * bv l

/-- Each is a bit. -/
def B1 (l : List Nat) : Prop := ∀ x ∈ l, x ≤ 1

theorem bv_nil : bv [] = 0 := rfl
theorem bv_cons (x : Nat) (l : List Nat) : bv (x :: l) = x + 2 * bv l := rfl
theorem bv_append (a b : List Nat) : bv (a ++ b) = bv a + 2 ^ a.length * bv b := by
  induction a with
  | nil => simp [bv]
  | cons x l ih => rw [List.cons_append, bv_cons, ih, bv_cons, List.length_cons, Nat.pow_succ]; grind
theorem bv_snoc (a : List Nat) (x : Nat) : bv (a ++ [x]) = bv a + 2 ^ a.length * x := by rw [bv_append]; simp [bv]

theorem B1.nil : B1 [] := by intro x h; cases h
theorem B1.cons {x : Nat} {l : List Nat} (h : x ≤ 1) (k : B1 l) : B1 (x :: l) := by
  intro y hy; rcases List.mem_cons.1 hy with rfl | h'
  · exact h
  · exact k y h'
theorem B1.tail {x : Nat} {l : List Nat} (h : B1 (x :: l)) : B1 l := fun y hy => h y (List.mem_cons_of_mem _ hy)
theorem B1.head {x : Nat} {l : List Nat} (h : B1 (x :: l)) : x ≤ 1 := h x List.mem_cons_self
theorem B1.append {a b : List Nat} (h : B1 a) (k : B1 b) : B1 (a ++ b) := by
  intro y hy; rcases List.mem_append.1 hy with h' | h'
  · exact h y h'
  · exact k y h'
theorem B1.snoc {a : List Nat} {x : Nat} (h : B1 a) (k : x ≤ 1) : B1 (a ++ [x]) := h.append (B1.nil.cons k)
theorem B1.take {l : List Nat} (h : B1 l) (n : Nat) : B1 (l.take n) := fun y hy => h y (List.mem_of_mem_take hy)
theorem B1.drop {l : List Nat} (h : B1 l) (n : Nat) : B1 (l.drop n) := fun y hy => h y (List.mem_of_mem_drop hy)
theorem B1.zeros (n : Nat) : B1 (List.replicate n 0) := by intro y hy; rw [(List.mem_replicate.1 hy).2]; decide
theorem B1.dg {l : List Nat} (h : B1 l) (i : Nat) : dg l i ≤ 1 := by
  unfold Lm.dg
  by_cases hi : i < l.length
  · rw [getD_in _ _ hi]; exact h _ (List.getElem_mem hi)
  · rw [getD_out _ _ (by omega)]; decide
theorem B1.set {l : List Nat} (h : B1 l) (i : Nat) {x : Nat} (k : x ≤ 1) : B1 (l.set i x) := by
  intro y hy
  rcases List.mem_or_eq_of_mem_set hy with h' | h'
  · exact h y h'
  · rw [h']; exact k
theorem B1.tl {l : List Nat} (h : B1 l) : B1 (tl l) := by rw [tl_take]; exact h.take _

theorem bv_lt {l : List Nat} (h : B1 l) : bv l < 2 ^ l.length := by
  induction l with
  | nil => simp [bv]
  | cons x l ih =>
    have h1 := ih h.tail
    have h2 := h.head
    rw [bv_cons, List.length_cons, Nat.pow_succ]; omega
theorem bv_zeros (n : Nat) : bv (List.replicate n 0) = 0 := by
  induction n with
  | zero => rfl
  | succ n ih => rw [List.replicate_succ, bv_cons, ih]
theorem take_snoc_dg (l : List Nat) (k : Nat) (h : k < l.length) : l.take (k + 1) = l.take k ++ [dg l k] := take_succ_getD l k h
theorem bv_take_dg (l : List Nat) (k : Nat) (h : k < l.length) : bv (l.take (k + 1)) = bv (l.take k) + 2 ^ k * dg l k := by
  rw [take_snoc_dg l k h, bv_snoc, List.length_take, Nat.min_eq_left (by omega)]
theorem bv_take_ge (l : List Nat) (k : Nat) (h : l.length ≤ k) : bv (l.take k) = bv l := by rw [List.take_of_length_le h]
theorem dg_out (l : List Nat) (k : Nat) (h : l.length ≤ k) : dg l k = 0 := getD_out l k h
theorem bv_take_any (l : List Nat) (k : Nat) : bv (l.take (k + 1)) = bv (l.take k) + 2 ^ k * dg l k := by
  by_cases h : k < l.length
  · exact bv_take_dg l k h
  · rw [bv_take_ge l _ (by omega), bv_take_ge l _ (by omega), dg_out l k (by omega)]; simp
theorem bv_drop_dg (l : List Nat) (k : Nat) : bv (l.drop k) = dg l k + 2 * bv (l.drop (k + 1)) := by
  by_cases h : k < l.length
  · rw [List.drop_eq_getElem_cons h, bv_cons]; unfold dg; rw [getD_in _ _ h]
  · rw [List.drop_eq_nil_of_le (by omega), List.drop_eq_nil_of_le (by omega), dg_out l k (by omega)]; rfl
theorem bv_split (l : List Nat) (k : Nat) (h : k ≤ l.length) : bv l = bv (l.take k) + 2 ^ k * bv (l.drop k) := by
  conv => lhs; rw [← List.take_append_drop k l]
  rw [bv_append, List.length_take, Nat.min_eq_left h]
theorem bv_split_any (l : List Nat) (k : Nat) : bv l = bv (l.take k) + 2 ^ k * bv (l.drop k) := by
  by_cases h : k ≤ l.length
  · exact bv_split l k h
  · rw [bv_take_ge l k (by omega), List.drop_eq_nil_of_le (by omega)]; simp [bv]
theorem tl_bv (l : List Nat) : bv (tl l) = bv l := by
  induction l with
  | nil => rfl
  | cons x l ih =>
    rw [tl, bv_cons]
    split
    · rename_i h; rw [← ih, h.1, h.2]; rfl
    · rw [bv_cons, ih]

theorem btop_ge {l : List Nat} (h : Top l) (hl : l ≠ []) : 2 ^ (l.length - 1) ≤ bv l := by
  have e := List.dropLast_concat_getLast hl
  have hv := bv_snoc l.dropLast (l.getLast hl)
  rw [e] at hv
  rw [hv, List.length_dropLast]
  have h0 : 1 ≤ l.getLast hl := Nat.one_le_iff_ne_zero.2 (h hl)
  have := Nat.mul_le_mul_left (2 ^ (l.length - 1)) h0
  omega
theorem btop_zero {l : List Nat} (h : Top l) (hv : bv l = 0) : l = [] := by
  by_cases hl : l = []
  · exact hl
  · have := btop_ge h hl
    have := Nat.pow_pos (n := l.length - 1) (show 0 < 2 by decide)
    omega
/-- How long the bits of a number are. -/
theorem btop_len {l : List Nat} (h1 : B1 l) (h : Top l) : l.length = bl (bv l) := by
  by_cases hl : l = []
  · subst hl; rfl
  · have hp : 0 < l.length := List.length_pos_iff.2 hl
    have a := btop_ge h hl
    have b := bv_lt h1
    refine (bl_unique b ?_).symm
    have : 2 ^ l.length = 2 * 2 ^ (l.length - 1) := by rw [← Nat.pow_succ']; congr 1; omega
    omega
theorem bv_inj {a b : List Nat} (ha : B1 a) (hb : B1 b) (hl : a.length = b.length) (h : bv a = bv b) : a = b := by
  induction a generalizing b with
  | nil => cases b with
    | nil => rfl
    | cons _ _ => simp at hl
  | cons x l ih => cases b with
    | nil => simp at hl
    | cons y m =>
      rw [bv_cons, bv_cons] at h
      have h1 := ha.head
      have h2 := hb.head
      have h3 : x = y := by omega
      have h4 : bv l = bv m := by omega
      rw [h3, ih ha.tail hb.tail (by simpa using hl) h4]
theorem btop_inj {a b : List Nat} (ha : B1 a) (hb : B1 b) (ta : Top a) (tb : Top b) (h : bv a = bv b) : a = b :=
  bv_inj ha hb (by rw [btop_len ha ta, btop_len hb tb, h]) h

/-- The number of a sign and bits. -/
def sg (n : Bool) (L : List Nat) : Int := if n then -(bv L : Int) else (bv L : Int)
theorem sg_abs (n : Bool) (L : List Nat) : (sg n L).natAbs = bv L := by unfold sg; cases n <;> simp
theorem sg_nil (n : Bool) : sg n [] = 0 := by cases n <;> rfl
theorem sg_tl (n : Bool) (L : List Nat) : sg n (tl L) = sg n L := by unfold sg; rw [tl_bv]
theorem sg_not (n : Bool) (L : List Nat) : sg (!n) L = -sg n L := by unfold sg; cases n <;> simp

/-! ### Comparing bits -/
theorem bv_above (a b : List Nat) (k : Nat) (hl : a.length = b.length) (h : ∀ j, k ≤ j → j < a.length → dg a j = dg b j) : a.drop k = b.drop k := by
  apply List.ext_getElem
  · simp [hl]
  · intro i h1 h2
    simp at h1 h2
    have := h (k + i) (by omega) (by omega)
    unfold dg at this
    rw [getD_in _ _ (by omega), getD_in _ _ (by omega)] at this
    simpa using this
theorem bv_less (a b : List Nat) (k : Nat) (ha : B1 a) (hl : a.length = b.length) (hk : k < a.length)
    (h : ∀ j, k + 1 ≤ j → j < a.length → dg a j = dg b j) (hlt : dg a k < dg b k) : bv a < bv b := by
  have e := bv_above a b (k + 1) hl h
  have s1 := bv_split a (k + 1) (by omega)
  have s2 := bv_split b (k + 1) (by omega)
  rw [e] at s1
  have t1 := bv_take_dg a k hk
  have t2 := bv_take_dg b k (by omega)
  have l1 := bv_lt (ha.take k)
  rw [List.length_take, Nat.min_eq_left (by omega)] at l1
  have := Nat.mul_le_mul_left (2 ^ k) (show dg a k + 1 ≤ dg b k by omega)
  rw [Nat.mul_add] at this
  omega
theorem bv_shorter {a b : List Nat} (ha : B1 a) (tb : Top b) (h : a.length < b.length) : bv a < bv b := by
  have hl : b ≠ [] := by intro e; subst e; simp at h
  have h1 := btop_ge tb hl
  have h2 := bv_lt ha
  have h3 : 2 ^ a.length ≤ 2 ^ (b.length - 1) := Nat.pow_le_pow_right (by decide) (by omega)
  omega

/-! ### Sums and differences -/
theorem bsum_step {p c x y o c' s t u : Nat} (h : s + p * c = t + u) (he : x + y + c = o + 2 * c') :
    (s + p * o) + p * 2 * c' = (t + p * x) + (u + p * y) := by grind
theorem bdiff_step {p c x y o c' s t u : Nat} (h : s + u = t + p * c) (he : o + y + c = x + 2 * c') :
    (s + p * o) + (u + p * y) = (t + p * x) + p * 2 * c' := by grind

/-! ### Limbs and bits -/
theorem P_bits (n : Nat) : P n = 2 ^ (32 * n) := P_two n
theorem limb_bit {p x s t : Nat} (h : s + p * x = t) : (s + p * (x % 2)) + p * 2 * (x / 2) = t := by
  have := Nat.div_add_mod x 2
  grind

/-! ### Setting one place -/
theorem bv_set (l : List Nat) (j v : Nat) (h : j < l.length) : bv (l.set j v) + 2 ^ j * dg l j = bv l + 2 ^ j * v := by
  induction l generalizing j with
  | nil => simp at h
  | cons x l ih =>
    cases j with
    | zero => simp [bv, dg]; omega
    | succ j =>
      have := ih j (by simpa using h)
      have e : dg (x :: l) (j + 1) = dg l j := by simp [dg]
      rw [List.set_cons_succ, bv_cons, bv_cons, e, Nat.pow_succ]
      grind
theorem bv_set_add (l : List Nat) (j y : Nat) (h : j < l.length) : bv (l.set j (dg l j + y)) = bv l + 2 ^ j * y := by
  have := bv_set l j (dg l j + y) h
  grind

/-! ### Bits into limbs -/
theorem chunk_step (B : List Nat) (j n : Nat) : bv ((B.drop j).take (n + 1)) = dg B j + 2 * bv ((B.drop (j + 1)).take n) := by
  by_cases h : j < B.length
  · rw [List.drop_eq_getElem_cons h, List.take_succ_cons, bv_cons]; unfold dg; rw [getD_in _ _ h]
  · rw [List.drop_eq_nil_of_le (by omega), List.drop_eq_nil_of_le (by omega), dg_out B j (by omega)]; simp [bv]
theorem chunk_take (B : List Nat) (j n : Nat) : bv (B.take (j + n)) = bv (B.take j) + 2 ^ j * bv ((B.drop j).take n) := by
  have h := bv_split_any (B.take (j + n)) j
  rw [List.take_take, Nat.min_eq_left (Nat.le_add_right _ _), List.drop_take, Nat.add_sub_cancel_left] at h
  exact h
theorem chunk_lt {B : List Nat} (h : B1 B) (j n : Nat) : bv ((B.drop j).take n) < 2 ^ n := by
  have h1 := bv_lt ((h.drop j).take n)
  have h2 : ((B.drop j).take n).length ≤ n := by rw [List.length_take]; omega
  exact Nat.lt_of_lt_of_le h1 (Nat.pow_le_pow_right (by decide) h2)
theorem top_of_ge {M : List Nat} (ho : Ok M) (h : M ≠ [] → P (M.length - 1) ≤ val M) : Top M := by
  intro hl h0
  have e := List.dropLast_concat_getLast hl
  have hv := val_snoc M.dropLast (M.getLast hl)
  rw [e, h0] at hv
  have hd : Ok M.dropLast := by rw [List.dropLast_eq_take]; exact ho.take _
  have := val_lt hd
  rw [List.length_dropLast] at this
  have := h hl
  omega
/-- Limbs made of normal bits, 32 a limb, are normal. -/
theorem top_chunks {M B : List Nat} (ho : Ok M) (tB : Top B) (h : val M = bv B) (h1 : 32 * M.length < B.length + 32) : Top M := by
  refine top_of_ge ho fun hl => ?_
  have hm : 0 < M.length := List.length_pos_iff.2 hl
  have hb : B ≠ [] := by intro e; subst e; simp at h1; omega
  have := btop_ge tB hb
  rw [h, P_two]
  exact Nat.le_trans (Nat.pow_le_pow_right (by decide) (by omega)) this
/-- Bits made of limbs are those of the same number. -/
theorem bl_chunks {M : List Nat} (ho : Ok M) : bl (val M) ≤ 32 * M.length := by
  rw [bl_le, ← P_two]; exact val_lt ho

/-! ### Products -/
theorem btimes_step {s x t y p i : Nat} (h : s = t * y) (hx : x = 1) (hp : p = 2 ^ i) : s + p * y = (t + 2 ^ i * x) * y := by subst hx hp h; grind
theorem btimes_skip {s x t y i : Nat} (h : s = t * y) (hx : x = 0) : s = (t + 2 ^ i * x) * y := by subst hx h; grind
theorem bcarry_step {p c x o c' s t : Nat} (h : s + p * c = t) (he : x + c = o + 2 * c') : (s + p * o) + p * 2 * c' = t + p * x := by grind
end Lm
