/- Plain mathematics: what the loops of the document's answer do to bits where they multiply and divide. No condition but those that each theorem names. -/
import Derived.Test.YtldafoojkimdeaaDoorBitl
namespace Lm

theorem dg_set_eq (l : List Nat) (j v : Nat) (h : j < l.length) : dg (l.set j v) j = v := by
  unfold dg; rw [getD_in _ _ (by simpa using h)]; simp
theorem dg_repl (n j : Nat) : dg (List.replicate n 0) j = 0 := by
  unfold dg
  by_cases h : j < n
  · rw [getD_in _ _ (by simpa using h)]; simp
  · rw [getD_out _ _ (by simpa using h)]

/-! ### Products -/
theorem btimes_set {l : List Nat} {j y s p t u : Nat} (h : j < l.length) (hv : bv l = s + p * u) (hj : 2 ^ j = p * t) : bv (l.set j (dg l j + y)) = s + p * (u + t * y) := by
  rw [bv_set_add l j y h, hv, hj]; grind
/-- Carrying: the list's low places are bits already. -/
theorem bcarry_set {l : List Nat} {k c s o c' : Nat} (h : k < l.length) (hv : bv l + 2 ^ k * c = s) (he : dg l k + c = o + 2 * c') : bv (l.set k o) + 2 ^ (k + 1) * c' = s := by
  have h1 := bv_set l k o h
  have h2 : 2 ^ k * dg l k + 2 ^ k * c = 2 ^ k * o + 2 ^ k * (2 * c') := by rw [← Nat.mul_add, he, Nat.mul_add]
  have h3 : 2 ^ (k + 1) * c' = 2 ^ k * (2 * c') := by rw [Nat.pow_succ, Nat.mul_assoc]
  omega
theorem B1_of_dg {l : List Nat} (h : ∀ j, j < l.length → dg l j ≤ 1) : B1 l := by
  intro x hx
  obtain ⟨i, hi, rfl⟩ := List.mem_iff_getElem.1 hx
  have := h i hi
  unfold dg at this; rwa [getD_in _ _ hi] at this

/-! ### Quotients -/
theorem bsub_set {l : List Nat} {i k x o y c c' s u : Nat} (h : k < l.length) (hi : i ≤ k) (hx : dg l k = x) (hv : bv l + 2 ^ i * u = s + 2 ^ k * c) (he : o + y + c = x + 2 * c') :
    bv (l.set k o) + 2 ^ i * (u + 2 ^ (k - i) * y) = s + 2 ^ (k + 1) * c' := by
  have h1 := bv_set l k o h
  rw [hx] at h1
  have h2 : 2 ^ k * o + 2 ^ k * y + 2 ^ k * c = 2 ^ k * x + 2 ^ k * (2 * c') := by rw [← Nat.mul_add, ← Nat.mul_add, he, Nat.mul_add]
  have h3 : 2 ^ (k + 1) * c' = 2 ^ k * (2 * c') := by rw [Nat.pow_succ, Nat.mul_assoc]
  have h4 : 2 ^ i * (u + 2 ^ (k - i) * y) = 2 ^ i * u + 2 ^ k * y := by
    rw [Nat.mul_add, ← Nat.mul_assoc, ← Nat.pow_add]; congr 3; omega
  omega
/-- Above a place all is nought: the rest is small. -/
theorem bv_drop_lt {l : List Nat} (h1 : B1 l) {t : Nat} (h : ∀ j, t ≤ j → j < l.length → dg l j = 0) (i : Nat) (hi : i ≤ t) : bv (l.drop i) < 2 ^ (t - i) := by
  have e : bv (l.drop i) = bv ((l.drop i).take (t - i)) := by
    have s := bv_split_any (l.drop i) (t - i)
    rw [List.drop_drop, show i + (t - i) = t by omega] at s
    have z : bv (l.drop t) = 0 := by
      have := bv_above l (List.replicate l.length 0) t (by simp) (fun j a b => by rw [h j a b, dg_repl])
      rw [this, List.drop_replicate, bv_zeros]
    rw [z] at s; simpa using s
  rw [e]; exact chunk_lt h1 i (t - i)
theorem bv_chunk {l : List Nat} {t : Nat} (h : ∀ j, t ≤ j → j < l.length → dg l j = 0) (i : Nat) (hi : i ≤ t) : bv ((l.drop i).take (t - i)) = bv (l.drop i) := by
  have s := bv_split_any (l.drop i) (t - i)
  rw [List.drop_drop, show i + (t - i) = t by omega] at s
  have z : bv (l.drop t) = 0 := by
    have := bv_above l (List.replicate l.length 0) t (by simp) (fun j a b => by rw [h j a b, dg_repl])
    rw [this, List.drop_replicate, bv_zeros]
  rw [z] at s; omega
/-- What is cut at a place that is not nought is normal. -/
theorem top_chunk {l : List Nat} {i t : Nat} (ht : t ≤ l.length) (h : i < t → dg l (t - 1) ≠ 0) : Top ((l.drop i).take (t - i)) := by
  intro hl
  rcases Nat.lt_or_ge i t with h1 | h1
  · have h2 := h h1
    have h3 : ((l.drop i).take (t - i)).length = t - i := by rw [List.length_take, List.length_drop]; omega
    rw [List.getLast_eq_getElem]
    simp only [h3]
    rw [List.getElem_take, List.getElem_drop]
    unfold dg at h2
    rw [getD_in _ _ (by omega)] at h2
    simpa [show i + (t - i - 1) = t - 1 by omega] using h2
  · exact absurd (by rw [show t - i = 0 by omega, List.take_zero]) hl
/-- The state of the division ahead of place m - 1. -/
structure Dv (A B : List Nat) (m : Nat) (Q R : List Nat) : Prop where
  lq : Q.length = A.length
  lr : R.length = A.length
  bq : B1 Q
  br : B1 R
  zq : ∀ j, j < m → dg Q j = 0
  eq : bv A = bv Q * bv B + bv R
  lt : bv (R.drop m) < bv B
theorem Dv.start {A B : List Nat} (h : B1 A) (hb : 0 < bv B) : Dv A B A.length (List.replicate A.length 0) A :=
  ⟨by simp, rfl, B1.zeros _, h, fun j _ => dg_repl _ j, by simp [bv_zeros], by rw [List.drop_length]; exact hb⟩
theorem Dv.skip {A B Q R : List Nat} {i : Nat} (h : Dv A B (i + 1) Q R) (hl : bv (R.drop i) < bv B) : Dv A B i Q R :=
  ⟨h.lq, h.lr, h.bq, h.br, fun j hj => h.zq j (by omega), h.eq, hl⟩
theorem Dv.take {A B Q R R' : List Nat} {i t c : Nat} (h : Dv A B (i + 1) Q R) (hi : i < A.length) (hl : bv B ≤ bv (R.drop i)) (hti : i ≤ t)
    (hz : ∀ j, t ≤ j → j < R.length → dg R j = 0) (hlen : R'.length = R.length) (hb : B1 R') (hlow : ∀ j, j < i → dg R' j = dg R j) (hhigh : ∀ j, t ≤ j → dg R' j = dg R j)
    (hv : bv R' + 2 ^ i * bv B = bv R + 2 ^ t * c) (hc : c ≤ 1) : Dv A B i (Q.set i 1) R' ∧ c = 0 := by
  have hR' : ∀ j, t ≤ j → j < R'.length → dg R' j = 0 := fun j a b => by rw [hhigh j a, hz j a (by omega)]
  have hlr := h.lr
  have hlq := h.lq
  have s1 := bv_split_any R i
  have s2 := bv_split_any R' i
  have e1 : R'.take i = R.take i := by
    apply List.ext_getElem
    · simp [hlen]
    · intro j a b
      simp at a b
      have := hlow j (by omega)
      unfold dg at this
      rw [getD_in _ _ (by omega), getD_in _ _ (by omega)] at this
      simpa using this
  have hlt := bv_drop_lt hb hR' i hti
  have hp : 2 ^ t = 2 ^ i * 2 ^ (t - i) := by rw [← Nat.pow_add]; congr 1; omega
  have hpos : 0 < 2 ^ i := Nat.pow_pos (by decide)
  have k1 : 2 ^ i * (bv (R'.drop i) + bv B) = 2 ^ i * (bv (R.drop i) + 2 ^ (t - i) * c) := by
    rw [Nat.mul_add, Nat.mul_add, ← Nat.mul_assoc, ← hp]
    rw [e1] at s2; omega
  have k2 := Nat.eq_of_mul_eq_mul_left hpos k1
  have hc0 : c = 0 := by
    rcases (show c = 0 ∨ c = 1 by omega) with rfl | rfl
    · rfl
    · omega
  subst hc0
  have hset := bv_set Q i 1 (by omega)
  rw [h.zq i (by omega)] at hset
  have hd := bv_drop_dg R i
  have hx := h.br.dg i
  have hl2 := h.lt
  refine ⟨⟨by simp [hlq], by omega, h.bq.set i (by omega), hb, fun j hj => ?_, ?_, by omega⟩, rfl⟩
  · rw [dg_set_ne _ _ _ _ (by omega)]; exact h.zq j (by omega)
  · have : bv (Q.set i 1) = bv Q + 2 ^ i := by omega
    rw [this, Nat.add_mul, h.eq]; omega
theorem Dv.done {A B Q R : List Nat} (h : Dv A B 0 Q R) : bv Q = bv A / bv B ∧ bv R = bv A % bv B := by
  have h1 := h.lt
  rw [List.drop_zero] at h1
  have h2 := h.eq
  have hb : 0 < bv B := by omega
  refine ⟨?_, ?_⟩
  · rw [h2, Nat.mul_comm, Nat.mul_add_div hb, Nat.div_eq_of_lt h1]; rfl
  · rw [h2, Nat.mul_comm, Nat.mul_add_mod, Nat.mod_eq_of_lt h1]
end Lm
