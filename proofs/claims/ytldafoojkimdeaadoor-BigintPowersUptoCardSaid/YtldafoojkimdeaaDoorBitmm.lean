/- Plain mathematics: a list of bits (the lowest first) stands for a number; what the loops of the document's answer do to such lists. No condition but those that each theorem names. Plain mathematics: what the loops of the document's answer do to bits where they multiply and divide. No condition but those that each theorem names. -/
import Derived.Test.YtldafoojkimdeaaDoorLimbs
namespace Lm

/-- The number that bits make. -/
def bv : List Nat → Nat
  | [] => 0
  | x :: l => x + 2 * bv l

/-- Each is a bit. -/
def B1 (l : List Nat) : Prop := ∀ x ∈ l, x ≤ 1

theorem bv_nil : bv [] = 0 := rfl
theorem bv_cons (x : Nat) (l : List Nat) : bv (x :: l) = x + 2 * bv l := rfl
theorem bv_append (a b : List Nat) : bv (a ++ b) = bv a + 2 ^ a.length * bv b := by
  induction a with
  | nil => simp [bv]
  | cons x l ih => rw [List.cons_append, bv_cons, ih, bv_cons, List.length_cons, Nat.pow_succ]; grind
theorem bv_snoc (a : List Nat) (x : Nat) : bv (a ++ [x]) = bv a + 2 ^ a.length * x := by rw [bv_append]; simp [bv]

theorem B1.nil : B1 [] := by intro x h; cases h
theorem B1.cons {x : Nat} {l : List Nat} (h : x ≤ 1) (k : B1 l) : B1 (x :: l) := by
  intro y hy; rcases List.mem_cons.1 hy with rfl | h'
  · exact h
  · exact k y h'
theorem B1.tail {x : Nat} {l : List Nat} (h : B1 (x :: l)) : B1 l := fun y hy => h y (List.mem_cons_of_mem _ hy)
theorem B1.head {x : Nat} {l : List Nat} (h : B1 (x :: l)) : x ≤ 1 := h x List.mem_cons_self
theorem B1.append {a b : List Nat} (h : B1 a) (k : B1 b) : B1 (a ++ b) := by
  intro y hy; rcases List.mem_append.1 hy with h' | h'
  · exact h y h'
  · exact k y h'
theorem B1.snoc {a : List Nat} {x : Nat} (h : B1 a) (k : x ≤ 1) : B1 (a ++ [x]) := h.append (B1.nil.cons k)
theorem B1.take {l : List Nat} (h : B1 l) (n : Nat) : B1 (l.take n) := fun y hy => h y (List.mem_of_mem_take hy)
theorem B1.drop {l : List Nat} (h : B1 l) (n : Nat) : B1 (l.drop n) := fun y hy => h y (List.mem_of_mem_drop hy)
theorem B1.zeros (n : Nat) : B1 (List.replicate n 0) := by intro y hy; rw [(List.mem_replicate.1 hy).2]; decide
theorem B1.dg {l : List Nat} (h : B1 l) (i : Nat) : dg l i ≤ 1 := by
  unfold Lm.dg
  by_cases hi : i < l.length
  · rw [getD_in _ _ hi]; exact h _ (List.getElem_mem hi)
  · rw [getD_out _ _ (by omega)]; decide
theorem B1.set {l : List Nat} (h : B1 l) (i : Nat) {x : Nat} (k : x ≤ 1) : B1 (l.set i x) := by
  intro y hy
  rcases List.mem_or_eq_of_mem_set hy with h' | h'
  · exact h y h'
  · rw [h']; exact k
theorem B1.tl {l : List Nat} (h : B1 l) : B1 (tl l) := by rw [tl_take]; exact h.take _

theorem bv_lt {l : List Nat} (h : B1 l) : bv l < 2 ^ l.length := by
  induction l with
  | nil => simp [bv]
  | cons x l ih =>
    have h1 := ih h.tail
    have h2 := h.head
    rw [bv_cons, List.length_cons, Nat.pow_succ]; omega
theorem bv_zeros (n : Nat) : bv (List.replicate n 0) = 0 := by
  induction n with
  | zero => rfl
  | succ n ih => rw [List.replicate_succ, bv_cons, ih]
theorem take_snoc_dg (l : List Nat) (k : Nat) (h : k < l.length) : l.take (k + 1) = l.take k ++ [dg l k] := take_succ_getD l k h
theorem bv_take_dg (l : List Nat) (k : Nat) (h : k < l.length) : bv (l.take (k + 1)) = bv (l.take k) + 2 ^ k * dg l k := by
  rw [take_snoc_dg l k h, bv_snoc, List.length_take, Nat.min_eq_left (by omega)]
theorem bv_take_ge (l : List Nat) (k : Nat) (h : l.length ≤ k) : bv (l.take k) = bv l := by rw [List.take_of_length_le h]
theorem dg_out (l : List Nat) (k : Nat) (h : l.length ≤ k) : dg l k = 0 := getD_out l k h
theorem bv_take_any (l : List Nat) (k : Nat) : bv (l.take (k + 1)) = bv (l.take k) + 2 ^ k * dg l k := by
  by_cases h : k < l.length
  · exact bv_take_dg l k h
  · rw [bv_take_ge l _ (by omega), bv_take_ge l _ (by omega), dg_out l k (by omega)]; simp
theorem bv_drop_dg (l : List Nat) (k : Nat) : bv (l.drop k) = dg l k + 2 * bv (l.drop (k + 1)) := by
  by_cases h : k < l.length
  · rw [List.drop_eq_getElem_cons h, bv_cons]; unfold dg; rw [getD_in _ _ h]
  · rw [List.drop_eq_nil_of_le (by omega), List.drop_eq_nil_of_le (by omega), dg_out l k (by omega)]; rfl
theorem bv_split (l : List Nat) (k : Nat) (h : k ≤ l.length) : bv l = bv (l.take k) + 2 ^ k * bv (l.drop k) := by
  conv => lhs; rw [← List.take_append_drop k l]
  rw [bv_append, List.length_take, Nat.min_eq_left h]
theorem bv_split_any (l : List Nat) (k : Nat) : bv l = bv (l.take k) + 2 ^ k * bv (l.drop k) := by
  by_cases h : k ≤ l.length
  · exact bv_split l k h
  · rw [bv_take_ge l k (by omega), List.drop_eq_nil_of_le (by omega)]; simp [bv]
theorem tl_bv (l : List Nat) : bv (tl l) = bv l := by
  induction l with
  | nil => rfl
  | cons x l ih =>
    rw [tl, bv_cons]
    split
    · rename_i h; rw [← ih, h.1, h.2]; rfl
    · rw [bv_cons, ih]

theorem btop_ge {l : List Nat} (h : Top l) (hl : l ≠ []) : 2 ^ (l.length - 1) ≤ bv l := by
  have e := List.dropLast_concat_getLast hl
  have hv := bv_snoc l.dropLast (l.getLast hl)
  rw [e] at hv
  rw [hv, List.length_dropLast]
  have h0 : 1 ≤ l.getLast hl := Nat.one_le_iff_ne_zero.2 (h hl)
  have := Nat.mul_le_mul_left (2 ^ (l.length - 1)) h0
  omega
theorem btop_zero {l : List Nat} (h : Top l) (hv : bv l = 0) : l = [] := by
  by_cases hl : l = []
  · exact hl
  · have := btop_ge h hl
    have := Nat.pow_pos (n := l.length - 1) (show 0 < 2 by decide)
    omega
/-- How long the bits of a number are. -/
theorem btop_len {l : List Nat} (h1 : B1 l) (h : Top l) : l.length = bl (bv l) := by
  by_cases hl : l = []
  · subst hl; rfl
  · have hp : 0 < l.length := List.length_pos_iff.2 hl
    have a := btop_ge h hl
    have b := bv_lt h1
    refine (bl_unique b ?_).symm
    have : 2 ^ l.length = 2 * 2 ^ (l.length - 1) := by rw [← Nat.pow_succ']; congr 1; omega
    omega
theorem bv_inj {a b : List Nat} (ha : B1 a) (hb : B1 b) (hl : a.length = b.length) (h : bv a = bv b) : a = b := by
  induction a generalizing b with
  | nil => cases b with
    | nil => rfl
    | cons _ _ => simp at hl
  | cons x l ih => cases b with
    | nil => simp at hl
    | cons y m =>
      rw [bv_cons, bv_cons] at h
      have h1 := ha.head
      have h2 := hb.head
      have h3 : x = y := by omega
      have h4 : bv l = bv m := by omega
      rw [h3, ih ha.tail hb.tail (by simpa using hl) h4]
theorem btop_inj {a b : List Nat} (ha : B1 a) (hb : B1 b) (ta : Top a) (tb : Top b) (h : bv a = bv b) : a = b :=
  bv_inj ha hb (by rw [btop_len ha ta, btop_len hb tb, h]) h

/-- The number of a sign and bits. -/
def sg (n : Bool) (L : List Nat) : Int := if n then -(bv L : Int) else (bv L : Int)
theorem sg_abs (n : Bool) (L : List Nat) : (sg n L).natAbs = bv L := by unfold sg; cases n <;> simp
theorem sg_nil (n : Bool) : sg n [] = 0 := by cases n <;> rfl
theorem sg_tl (n : Bool) (L : List Nat) : sg n (tl L) = sg n L := by unfold sg; rw [tl_bv]
theorem sg_not (n : Bool) (L : List Nat) : sg (!n) L = -sg n L := by unfold sg; cases n <;> simp

/-! ### Comparing bits -/
theorem bv_above (a b : List Nat) (k : Nat) (hl : a.length = b.length) (h : ∀ j, k ≤ j → j < a.length → dg a j = dg b j) : a.drop k = b.drop k := by
  apply List.ext_getElem
  · simp [hl]
  · intro i h1 h2
    simp at h1 h2
    have := h (k + i) (by omega) (by omega)
    unfold dg at this
    rw [getD_in _ _ (by omega), getD_in _ _ (by omega)] at this
    simpa using this
theorem bv_less (a b : List Nat) (k : Nat) (ha : B1 a) (hl : a.length = b.length) (hk : k < a.length)
    (h : ∀ j, k + 1 ≤ j → j < a.length → dg a j = dg b j) (hlt : dg a k < dg b k) : bv a < bv b := by
  have e := bv_above a b (k + 1) hl h
  have s1 := bv_split a (k + 1) (by omega)
  have s2 := bv_split b (k + 1) (by omega)
  rw [e] at s1
  have t1 := bv_take_dg a k hk
  have t2 := bv_take_dg b k (by omega)
  have l1 := bv_lt (ha.take k)
  rw [List.length_take, Nat.min_eq_left (by omega)] at l1
  have := Nat.mul_le_mul_left (2 ^ k) (show dg a k + 1 ≤ dg b k by omega)
  rw [Nat.mul_add] at this
  omega
theorem bv_shorter {a b : List Nat} (ha : B1 a) (tb : Top b) (h : a.length < b.length) : bv a < bv b := by
  have hl : b ≠ [] := by intro e; subst e; simp at h
  have h1 := btop_ge tb hl
  have h2 := bv_lt ha
  have h3 : 2 ^ a.length ≤ 2 ^ (b.length - 1) := Nat.pow_le_pow_right (by decide) (by omega)
  omega

/-! ### Sums and differences -/
theorem bsum_step {p c x y o c' s t u : Nat} (h : s + p * c = t + u) (he : x + y + c = o + 2 * c') :
    (s + p * o) + p * 2 * c' = (t + p * x) + (u + p * y) := by grind
theorem bdiff_step {p c x y o c' s t u : Nat} (h : s + u = t + p * c) (he : o + y + c = x + 2 * c') :
    (s + p * o) + (u + p * y) = (t + p * x) + p * 2 * c' := by grind

/-! ### Limbs and bits -/
theorem P_bits (n : Nat) : P n = 2 ^ (32 * n) := P_two n
theorem limb_bit {p x s t : Nat} (h : s + p * x = t) : (s + p * (x % 2)) + p * 2 * (x / 2) = t := by
  have := Nat.div_add_mod x 2
  grind

/-! ### Setting one place -/
theorem bv_set (l : List Nat) (j v : Nat) (h : j < l.length) : bv (l.set j v) + 2 ^ j * dg l j = bv l + 2 ^ j * v := by
  induction l generalizing j with
  | nil => simp at h
  | cons x l ih =>
    cases j with
    | zero => simp [bv, dg]; omega
    | succ j =>
      have := ih j (by simpa using h)
      have e : dg (x :: l) (j + 1) = dg l j := by simp [dg]
      rw [List.set_cons_succ, bv_cons, bv_cons, e, Nat.pow_succ]
      grind
theorem bv_set_add (l : List Nat) (j y : Nat) (h : j < l.length) : bv (l.set j (dg l j + y)) = bv l + 2 ^ j * y := by
  have := bv_set l j (dg l j + y) h
  grind

/-! ### Bits into limbs -/
theorem chunk_step (B : List Nat) (j n : Nat) : bv ((B.drop j).take (n + 1)) = dg B j + 2 * bv ((B.drop (j + 1)).take n) := by
  by_cases h : j < B.length
  · rw [List.drop_eq_getElem_cons h, List.take_succ_cons, bv_cons]; unfold dg; rw [getD_in _ _ h]
  · rw [List.drop_eq_nil_of_le (by omega), List.drop_eq_nil_of_le (by omega), dg_out B j (by omega)]; simp [bv]
theorem chunk_take (B : List Nat) (j n : Nat) : bv (B.take (j + n)) = bv (B.take j) + 2 ^ j * bv ((B.drop j).take n) := by
  have h := bv_split_any (B.take (j + n)) j
  rw [List.take_take, Nat.min_eq_left (Nat.le_add_right _ _), List.drop_take, Nat.add_sub_cancel_left] at h
  exact h
theorem chunk_lt {B : List Nat} (h : B1 B) (j n : Nat) : bv ((B.drop j).take n) < 2 ^ n := by
  have h1 := bv_lt ((h.drop j).take n)
  have h2 : ((B.drop j).take n).length ≤ n := by rw [List.length_take]; omega
  exact Nat.lt_of_lt_of_le h1 (Nat.pow_le_pow_right (by decide) h2)
theorem top_of_ge {M : List Nat} (ho : Ok M) (h : M ≠ [] → P (M.length - 1) ≤ val M) : Top M := by
  intro hl h0
  have e := List.dropLast_concat_getLast hl
  have hv := val_snoc M.dropLast (M.getLast hl)
  rw [e, h0] at hv
  have hd : Ok M.dropLast := by rw [List.dropLast_eq_take]; exact ho.take _
  have := val_lt hd
  rw [List.length_dropLast] at this
  have := h hl
  omega
/-- Limbs made of normal bits, 32 a limb, are normal. -/
theorem top_chunks {M B : List Nat} (ho : Ok M) (tB : Top B) (h : val M = bv B) (h1 : 32 * M.length < B.length + 32) : Top M := by
  refine top_of_ge ho fun hl => ?_
  have hm : 0 < M.length := List.length_pos_iff.2 hl
  have hb : B ≠ [] := by intro e; subst e; simp at h1; omega
  have := btop_ge tB hb
  rw [h, P_two]
  exact Nat.le_trans (Nat.pow_le_pow_right (by decide) (by omega)) this
/-- Bits made of limbs are those of the same number. -/
theorem bl_chunks {M : List Nat} (ho : Ok M) : bl (val M) ≤ 32 * M.length := by
  rw [bl_le, ← P_two]; exact val_lt ho

/-! ### Products -/
theorem btimes_step {s x t y p i : Nat} (h : s = t * y) (hx : x = 1) (hp : p = 2 ^ i) : s + p * y = (t + 2 ^ i * x) * y := by subst hx hp h; grind
theorem btimes_skip {s x t y i : Nat} (h : s = t * y) (hx : x = 0) : s = (t + 2 ^ i * x) * y := by subst hx h; grind
theorem bcarry_step {p c x o c' s t : Nat} (h : s + p * c = t) (he : x + c = o + 2 * c') : (s + p * o) + p * 2 * c' = t + p * x := by grind
end Lm

namespace Lm

theorem dg_set_eq (l : List Nat) (j v : Nat) (h : j < l.length) : dg (l.set j v) j = v := by
  unfold dg; rw [getD_in _ _ (by simpa using h)]; simp
theorem dg_repl (n j : Nat) : dg (List.replicate n 0) j = 0 := by
  unfold dg
  by_cases h : j < n
  · rw [getD_in _ _ (by simpa using h)]; simp
  · rw [getD_out _ _ (by simpa using h)]

/-! ### Products -/
theorem btimes_set {l : List Nat} {j y s p t u : Nat} (h : j < l.length) (hv : bv l = s + p * u) (hj : 2 ^ j = p * t) : bv (l.set j (dg l j + y)) = s + p * (u + t * y) := by
  rw [bv_set_add l j y h, hv, hj]; grind
/-- Carrying: the list's low places are bits already. -/
theorem bcarry_set {l : List Nat} {k c s o c' : Nat} (h : k < l.length) (hv : bv l + 2 ^ k * c = s) (he : dg l k + c = o + 2 * c') : bv (l.set k o) + 2 ^ (k + 1) * c' = s := by
  have h1 := bv_set l k o h
  have h2 : 2 ^ k * dg l k + 2 ^ k * c = 2 ^ k * o + 2 ^ k * (2 * c') := by rw [← Nat.mul_add, he, Nat.mul_add]
  have h3 : 2 ^ (k + 1) * c' = 2 ^ k * (2 * c') := by rw [Nat.pow_succ, Nat.mul_assoc]
  omega
theorem B1_of_dg {l : List Nat} (h : ∀ j, j < l.length → dg l j ≤ 1) : B1 l := by
  intro x hx
  obtain ⟨i, hi, rfl⟩ := List.mem_iff_getElem.1 hx
  have := h i hi
  unfold dg at this; rwa [getD_in _ _ hi] at this

/-! ### Quotients -/
theorem bsub_set {l : List Nat} {i k x o y c c' s u : Nat} (h : k < l.length) (hi : i ≤ k) (hx : dg l k = x) (hv : bv l + 2 ^ i * u = s + 2 ^ k * c) (he : o + y + c = x + 2 * c') :
    bv (l.set k o) + 2 ^ i * (u + 2 ^ (k - i) * y) = s + 2 ^ (k + 1) * c' := by
  have h1 := bv_set l k o h
  rw [hx] at h1
  have h2 : 2 ^ k * o + 2 ^ k * y + 2 ^ k * c = 2 ^ k * x + 2 ^ k * (2 * c') := by rw [← Nat.mul_add, ← Nat.mul_add, he, Nat.mul_add]
  have h3 : 2 ^ (k + 1) * c' = 2 ^ k * (2 * c') := by rw [Nat.pow_succ, Nat.mul_assoc]
  have h4 : 2 ^ i * (u + 2 ^ (k - i) * y) = 2 ^ i * u + 2 ^ k * y := by
    rw [Nat.mul_add, ← Nat.mul_assoc, ← Nat.pow_add]; congr 3; omega
  omega
/-- Above a place all is nought: the rest is small. -/
theorem bv_drop_lt {l : List Nat} (h1 : B1 l) {t : Nat} (h : ∀ j, t ≤ j → j < l.length → dg l j = 0) (i : Nat) (hi : i ≤ t) : bv (l.drop i) < 2 ^ (t - i) := by
  have e : bv (l.drop i) = bv ((l.drop i).take (t - i)) := by
    have s := bv_split_any (l.drop i) (t - i)
    rw [List.drop_drop, show i + (t - i) = t by omega] at s
    have z : bv (l.drop t) = 0 := by
      have := bv_above l (List.replicate l.length 0) t (by simp) (fun j a b => by rw [h j a b, dg_repl])
      rw [this, List.drop_replicate, bv_zeros]
    rw [z] at s; simpa using s
  rw [e]; exact chunk_lt h1 i (t - i)
theorem bv_chunk {l : List Nat} {t : Nat} (h : ∀ j, t ≤ j → j < l.length → dg l j = 0) (i : Nat) (hi : i ≤ t) : bv ((l.drop i).take (t - i)) = bv (l.drop i) := by
  have s := bv_split_any (l.drop i) (t - i)
  rw [List.drop_drop, show i + (t - i) = t by omega] at s
  have z : bv (l.drop t) = 0 := by
    have := bv_above l (List.replicate l.length 0) t (by simp) (fun j a b => by rw [h j a b, dg_repl])
    rw [this, List.drop_replicate, bv_zeros]
  rw [z] at s; omega
/-- What is cut at a place that is not nought is normal. -/
theorem top_chunk {l : List Nat} {i t : Nat} (ht : t ≤ l.length) (h : i < t → dg l (t - 1) ≠ 0) : Top ((l.drop i).take (t - i)) := by
  intro hl
  rcases Nat.lt_or_ge i t with h1 | h1
  · have h2 := h h1
    have h3 : ((l.drop i).take (t - i)).length = t - i := by rw [List.length_take, List.length_drop]; omega
    rw [List.getLast_eq_getElem]
    simp only [h3]
    rw [List.getElem_take, List.getElem_drop]
    unfold dg at h2
    rw [getD_in _ _ (by omega)] at h2
    simpa [show i + (t - i - 1) = t - 1 by omega] using h2
  · exact absurd (by rw [show t - i = 0 by omega, List.take_zero]) hl
/-- The state of the division ahead of place m - 1. -/
structure Dv (A B : List Nat) (m : Nat) (Q R : List Nat) : Prop where
  lq : Q.length = A.length
  lr : R.length = A.length
  bq : B1 Q
  br : B1 R
  zq : ∀ j, j < m → dg Q j = 0
  eq : bv A = bv Q * bv B + bv R
  lt : bv (R.drop m) < bv B
theorem Dv.start {A B : List Nat} (h : B1 A) (hb : 0 < bv B) : Dv A B A.length (List.replicate A.length 0) A :=
  ⟨by simp, rfl, B1.zeros _, h, fun j _ => dg_repl _ j, by simp [bv_zeros], by rw [List.drop_length]; exact hb⟩
theorem Dv.skip {A B Q R : List Nat} {i : Nat} (h : Dv A B (i + 1) Q R) (hl : bv (R.drop i) < bv B) : Dv A B i Q R :=
  ⟨h.lq, h.lr, h.bq, h.br, fun j hj => h.zq j (by omega), h.eq, hl⟩
theorem Dv.take {A B Q R R' : List Nat} {i t c : Nat} (h : Dv A B (i + 1) Q R) (hi : i < A.length) (hl : bv B ≤ bv (R.drop i)) (hti : i ≤ t)
    (hz : ∀ j, t ≤ j → j < R.length → dg R j = 0) (hlen : R'.length = R.length) (hb : B1 R') (hlow : ∀ j, j < i → dg R' j = dg R j) (hhigh : ∀ j, t ≤ j → dg R' j = dg R j)
    (hv : bv R' + 2 ^ i * bv B = bv R + 2 ^ t * c) (hc : c ≤ 1) : Dv A B i (Q.set i 1) R' ∧ c = 0 := by
  have hR' : ∀ j, t ≤ j → j < R'.length → dg R' j = 0 := fun j a b => by rw [hhigh j a, hz j a (by omega)]
  have hlr := h.lr
  have hlq := h.lq
  have s1 := bv_split_any R i
  have s2 := bv_split_any R' i
  have e1 : R'.take i = R.take i := by
    apply List.ext_getElem
    · simp [hlen]
    · intro j a b
      simp at a b
      have := hlow j (by omega)
      unfold dg at this
      rw [getD_in _ _ (by omega), getD_in _ _ (by omega)] at this
      simpa using this
  have hlt := bv_drop_lt hb hR' i hti
  have hp : 2 ^ t = 2 ^ i * 2 ^ (t - i) := by rw [← Nat.pow_add]; congr 1; omega
  have hpos : 0 < 2 ^ i := Nat.pow_pos (by decide)
  have k1 : 2 ^ i * (bv (R'.drop i) + bv B) = 2 ^ i * (bv (R.drop i) + 2 ^ (t - i) * c) := by
    rw [Nat.mul_add, Nat.mul_add, ← Nat.mul_assoc, ← hp]
    rw [e1] at s2; omega
  have k2 := Nat.eq_of_mul_eq_mul_left hpos k1
  have hc0 : c = 0 := by
    rcases (show c = 0 ∨ c = 1 by omega) with rfl | rfl
    · rfl
    · omega
  subst hc0
  have hset := bv_set Q i 1 (by omega)
  rw [h.zq i (by omega)] at hset
  have hd := bv_drop_dg R i
  have hx := h.br.dg i
  have hl2 := h.lt
  refine ⟨⟨by simp [hlq], by omega, h.bq.set i (by omega), hb, fun j hj => ?_, ?_, by omega⟩, rfl⟩
  · rw [dg_set_ne _ _ _ _ (by omega)]; exact h.zq j (by omega)
  · have : bv (Q.set i 1) = bv Q + 2 ^ i := by omega
    rw [this, Nat.add_mul, h.eq]; omega
theorem Dv.done {A B Q R : List Nat} (h : Dv A B 0 Q R) : bv Q = bv A / bv B ∧ bv R = bv A % bv B := by
  have h1 := h.lt
  rw [List.drop_zero] at h1
  have h2 := h.eq
  have hb : 0 < bv B := by omega
  refine ⟨?_, ?_⟩
  · rw [h2, Nat.mul_comm, Nat.mul_add_div hb, Nat.div_eq_of_lt h1]; rfl
  · rw [h2, Nat.mul_comm, Nat.mul_add_mod, Nat.mod_eq_of_lt h1]
end Lm
