/- Nearest floats: plain; the walks of significand, ToFloat, OfFloat; what their answers say. ToFloat and OfFloat where no float or no integer comes out; fbits of any number below infinity. No condition but those that each theorem names. -/
import Derived.Test.YtldafoojkimdeaaDoorW48
import Derived.Test.YtldafoojkimdeaaDoorW2
import Derived.Test.YtldafoojkimdeaaDoorW8
import Derived.Test.YtldafoojkimdeaaDoorW20
import Derived.Test.YtldafoojkimdeaaDoorW33
import Derived.Test.YtldafoojkimdeaaDoorW60m
namespace Lm

/-- The highest 54 bits of a number of s bits. -/
def top54 (x s : Nat) : Nat := if 53 < s then x / 2 ^ (s - 54) else x * 2 ^ (54 - s)
/-- Whether a bit stands below them. -/
def lost54 (x s : Nat) : Bool := decide (53 < s) && decide (x % 2 ^ (s - 54) ≠ 0)
/-- The highest 53 bits, to the nearest, of two as near the even one. -/
def sig53 (t : Nat) (l : Bool) : Nat := t / 2 + if t % 2 = 1 ∧ (l = true ∨ t / 2 % 2 = 1) then 1 else 0
def sigf (x : Nat) : Nat := sig53 (top54 x (bl x)) (lost54 x (bl x))
/-- The bits of the nearest float. -/
def fbits (x : Nat) : Nat := if x = 0 then 0 else (bl x + 1021) * 4503599627370496 + sigf x
/-- The nearest float's value. -/
def fval (x : Nat) : Nat := if bl x ≤ 53 then x else sigf x * 2 ^ (bl x - 53)

theorem bl_low {x : Nat} (h : x ≠ 0) : 0 < bl x ∧ 2 ^ (bl x - 1) ≤ x ∧ x < 2 ^ bl x := by
  have h1 := (bl_le x (bl x)).1 (Nat.le_refl _)
  have h4 : 0 < bl x := by
    rcases Nat.eq_zero_or_pos (bl x) with k | k
    · rw [k] at h1; simp at h1; exact absurd h1 h
    · exact k
  refine ⟨h4, ?_, h1⟩
  rcases Nat.lt_or_ge x (2 ^ (bl x - 1)) with k | k
  · have := (bl_le x (bl x - 1)).2 k; omega
  · exact k
theorem bl_of {x s : Nat} (h1 : 2 ^ s ≤ x) (h2 : x < 2 ^ (s + 1)) : bl x = s + 1 := bl_unique h2 (by rw [Nat.pow_succ]; omega)

theorem top54_range {x : Nat} (h : x ≠ 0) : 9007199254740992 ≤ top54 x (bl x) ∧ top54 x (bl x) < 18014398509481984 := by
  obtain ⟨h0, h1, h2⟩ := bl_low h
  unfold top54
  generalize bl x = s at *
  split
  · have e1 : 2 ^ (s - 1) = 9007199254740992 * 2 ^ (s - 54) := by rw [show (9007199254740992 : Nat) = 2 ^ 53 from rfl, ← Nat.pow_add]; congr 1; omega
    have e2 : 2 ^ s = 18014398509481984 * 2 ^ (s - 54) := by rw [show (18014398509481984 : Nat) = 2 ^ 54 from rfl, ← Nat.pow_add]; congr 1; omega
    have hu : 0 < 2 ^ (s - 54) := Nat.two_pow_pos _
    rw [e1] at h1; rw [e2] at h2
    exact ⟨(Nat.le_div_iff_mul_le hu).2 h1, (Nat.div_lt_iff_lt_mul hu).2 h2⟩
  · have e1 : 2 ^ (s - 1) * 2 ^ (54 - s) = 9007199254740992 := by rw [← Nat.pow_add, show s - 1 + (54 - s) = 53 by omega]
    have e2 : 2 ^ s * 2 ^ (54 - s) = 18014398509481984 := by rw [← Nat.pow_add, show s + (54 - s) = 54 by omega]
    have hu : 0 < 2 ^ (54 - s) := Nat.two_pow_pos _
    rw [← e1, ← e2]
    exact ⟨Nat.mul_le_mul_right _ h1, Nat.mul_lt_mul_of_pos_right h2 hu⟩
theorem sig53_range {t : Nat} {l : Bool} (h1 : 9007199254740992 ≤ t) (h2 : t < 18014398509481984) : 4503599627370496 ≤ sig53 t l ∧ sig53 t l ≤ 9007199254740992 := by
  unfold sig53; split <;> omega
theorem sigf_range {x : Nat} (h : x ≠ 0) : 4503599627370496 ≤ sigf x ∧ sigf x ≤ 9007199254740992 := by
  obtain ⟨h1, h2⟩ := top54_range h
  exact sig53_range h1 h2
theorem sig_small {x : Nat} (h : bl x ≤ 53) : sigf x = x * 2 ^ (53 - bl x) := by
  unfold sigf top54
  generalize bl x = s at *
  rw [if_neg (by omega)]
  have e : x * 2 ^ (54 - s) = 2 * (x * 2 ^ (53 - s)) := by rw [show 54 - s = (53 - s) + 1 by omega, Nat.pow_succ]; grind
  rw [e]
  unfold sig53
  rw [if_neg (by omega)]; omega
theorem sig_small_lt {x : Nat} (h0 : x ≠ 0) (h : bl x ≤ 53) : sigf x < 9007199254740992 := by
  rw [sig_small h]
  obtain ⟨_, _, h2⟩ := bl_low h0
  generalize bl x = s at *
  have e2 : 2 ^ s * 2 ^ (53 - s) = 9007199254740992 := by rw [← Nat.pow_add, show s + (53 - s) = 53 by omega]
  rw [← e2]
  exact Nat.mul_lt_mul_of_pos_right h2 (Nat.two_pow_pos _)
theorem sig53_near (t r u : Nat) (l : Bool) (hr : r < u) (hl : l = true ↔ r ≠ 0) : t * u + r ≤ sig53 t l * (2 * u) + u ∧ sig53 t l * (2 * u) ≤ t * u + r + u := by
  obtain ⟨k, c, rfl, hc⟩ : ∃ k c, t = 2 * k + c ∧ c < 2 := ⟨t / 2, t % 2, by omega, by omega⟩
  have e1 : (2 * k + c) / 2 = k := by omega
  have e2 : (2 * k + c) % 2 = c := by omega
  unfold sig53
  rw [e1, e2]
  have e3 : (2 * k + c) * u = k * (2 * u) + c * u := by grind
  rw [e3]
  split
  · rename_i h
    obtain ⟨h1, _⟩ := h
    subst h1
    rw [Nat.add_mul, Nat.one_mul, Nat.one_mul]; omega
  · rename_i h
    rw [Nat.add_zero]
    rcases (show c = 0 ∨ c = 1 by omega) with h1 | h1
    · subst h1; rw [Nat.zero_mul]; omega
    · subst h1
      have : r = 0 := by
        rcases Nat.eq_zero_or_pos r with h2 | h2
        · exact h2
        · exact absurd ⟨rfl, .inl (hl.2 (by omega))⟩ h
      rw [this, Nat.one_mul]; omega
/-- The nearest float is within half of its last place. -/
theorem fval_near (x : Nat) (h : 53 < bl x) : x ≤ fval x + 2 ^ (bl x - 54) ∧ fval x ≤ x + 2 ^ (bl x - 54) := by
  unfold fval sigf top54 lost54
  generalize bl x = s at *
  rw [if_neg (by omega), if_pos h]
  have hu : 0 < 2 ^ (s - 54) := Nat.two_pow_pos _
  have e : 2 ^ (s - 53) = 2 * 2 ^ (s - 54) := by rw [show s - 53 = (s - 54) + 1 by omega, Nat.pow_succ]; omega
  have hd := Nat.div_add_mod' x (2 ^ (s - 54))
  have hm := Nat.mod_lt x hu
  have := sig53_near (x / 2 ^ (s - 54)) (x % 2 ^ (s - 54)) (2 ^ (s - 54)) (decide (53 < s) && decide (x % 2 ^ (s - 54) ≠ 0)) hm (by simp [h])
  rw [hd] at this
  rw [e]; omega
theorem sig53_mono {t t' : Nat} {l l' : Bool} (h : t < t' ∨ (t = t' ∧ (l = true → l' = true))) : sig53 t l ≤ sig53 t' l' := by
  unfold sig53
  rcases h with h | ⟨rfl, h⟩
  · split <;> split <;> rename_i h1 h2 <;> omega
  · split
    · rename_i h1
      rw [if_pos ⟨h1.1, h1.2.imp h id⟩]; exact Nat.le_refl _
    · split <;> omega
theorem fval_le_pow {x : Nat} (h : x ≠ 0) : fval x ≤ 2 ^ bl x := by
  obtain ⟨_, h2⟩ := sigf_range h
  unfold fval
  split
  · exact Nat.le_of_lt (bl_low h).2.2
  · have e : 2 ^ bl x = 9007199254740992 * 2 ^ (bl x - 53) := by rw [show (9007199254740992 : Nat) = 2 ^ 53 from rfl, ← Nat.pow_add]; congr 1; omega
    rw [e]; exact Nat.mul_le_mul_right _ h2
theorem fval_ge_pow {x : Nat} (h : x ≠ 0) : 2 ^ (bl x - 1) ≤ fval x := by
  obtain ⟨h1, _⟩ := sigf_range h
  unfold fval
  split
  · exact (bl_low h).2.1
  · have e : 2 ^ (bl x - 1) = 4503599627370496 * 2 ^ (bl x - 53) := by rw [show (4503599627370496 : Nat) = 2 ^ 52 from rfl, ← Nat.pow_add]; congr 1; omega
    rw [e]; exact Nat.mul_le_mul_right _ h1
theorem bl_mono {x y : Nat} (h : x ≤ y) : bl x ≤ bl y := (bl_le x (bl y)).2 (Nat.lt_of_le_of_lt h ((bl_le y (bl y)).1 (Nat.le_refl _)))
theorem fval_zero : fval 0 = 0 := by
  have : bl 0 ≤ 0 := (bl_le 0 0).2 (by simp)
  unfold fval; rw [if_pos (by omega)]
/-- Nearest floats keep the order. -/
theorem fval_mono {x y : Nat} (h : x ≤ y) : fval x ≤ fval y := by
  by_cases hx : x = 0
  · subst hx; rw [fval_zero]; exact Nat.zero_le _
  · have hy : y ≠ 0 := by omega
    rcases Nat.lt_or_eq_of_le (bl_mono h) with k | k
    · refine Nat.le_trans (fval_le_pow hx) (Nat.le_trans ?_ (fval_ge_pow hy))
      exact Nat.pow_le_pow_right (by decide) (by omega)
    · unfold fval sigf
      rw [k]
      split
      · exact h
      · rename_i hs
        refine Nat.mul_le_mul_right _ (sig53_mono ?_)
        unfold top54 lost54
        rw [if_pos (by omega), if_pos (by omega)]
        generalize bl y = s at *
        have hd := Nat.div_le_div_right (c := 2 ^ (s - 54)) h
        rcases Nat.lt_or_eq_of_le hd with g | g
        · exact .inl g
        · refine .inr ⟨g, ?_⟩
          have e1 := Nat.div_add_mod' x (2 ^ (s - 54))
          have e2 := Nat.div_add_mod' y (2 ^ (s - 54))
          rw [g] at e1
          simp only [Bool.and_eq_true, decide_eq_true_eq]
          omega
/-- What bits without a sign stand for, cut to a whole number. -/
def fread (R : Nat) : Nat :=
  if R / 4503599627370496 < 1023 then 0
  else if R / 4503599627370496 - 1023 < 53 then (R % 4503599627370496 + 4503599627370496) / 2 ^ (52 - (R / 4503599627370496 - 1023))
  else (R % 4503599627370496 + 4503599627370496) * 2 ^ (R / 4503599627370496 - 1023 - 52)
theorem fread_fbits (x : Nat) : fread (fbits x) = fval x := by
  by_cases hx : x = 0
  · subst hx
    rw [fval_zero]; unfold fbits fread
    rw [if_pos rfl, if_pos (by decide)]
  · obtain ⟨h1, h2⟩ := sigf_range hx
    obtain ⟨h3, _, _⟩ := bl_low hx
    unfold fbits
    rw [if_neg hx]
    unfold fread
    rcases Nat.lt_or_eq_of_le h2 with h | h
    · have e1 : ((bl x + 1021) * 4503599627370496 + sigf x) / 4503599627370496 = bl x + 1022 := by omega
      have e2 : ((bl x + 1021) * 4503599627370496 + sigf x) % 4503599627370496 + 4503599627370496 = sigf x := by omega
      rw [e1, e2, if_neg (by omega)]
      unfold fval
      split
      · rename_i k
        rw [if_pos (by omega), sig_small (by omega), show 52 - (bl x + 1022 - 1023) = 53 - bl x by omega, Nat.mul_div_cancel _ (Nat.two_pow_pos _)]
      · rename_i k
        rw [if_neg (by omega), show bl x + 1022 - 1023 - 52 = bl x - 53 by omega]
    · have e1 : ((bl x + 1021) * 4503599627370496 + sigf x) / 4503599627370496 = bl x + 1023 := by omega
      have e2 : ((bl x + 1021) * 4503599627370496 + sigf x) % 4503599627370496 + 4503599627370496 = 4503599627370496 := by omega
      have hs : ¬ bl x ≤ 53 := by intro k; have := sig_small_lt hx k; omega
      rw [e1, e2, if_neg (by omega), if_neg (by omega)]
      unfold fval
      rw [if_neg hs, h, show bl x + 1023 - 1023 - 52 = (bl x - 53) + 1 by omega, Nat.pow_succ]
      omega
theorem sigf_exact {x s m : Nat} (hs : 53 ≤ s) (hx : x = m * 2 ^ (s - 53)) (hb : bl x = s) : sigf x = m := by
  unfold sigf top54 lost54
  rw [hb]
  by_cases h : 53 < s
  · have e : m * 2 ^ (s - 53) = (2 * m) * 2 ^ (s - 54) := by rw [show s - 53 = (s - 54) + 1 by omega, Nat.pow_succ]; grind
    rw [if_pos h, hx, e, Nat.mul_div_cancel _ (Nat.two_pow_pos _), Nat.mul_mod_left]
    unfold sig53
    simp
  · have : s = 53 := by omega
    subst this
    rw [if_neg (by omega), hx]
    unfold sig53
    rw [if_neg (by simp)]; simp
/-- The nearest float of a float is itself. -/
theorem fbits_fval (x : Nat) : fbits (fval x) = fbits x := by
  by_cases hx : x = 0
  · subst hx; rw [fval_zero]
  · by_cases hs : bl x ≤ 53
    · unfold fval; rw [if_pos hs]
    · obtain ⟨h1, h2⟩ := sigf_range hx
      have hv : fval x = sigf x * 2 ^ (bl x - 53) := by unfold fval; rw [if_neg hs]
      have hv0 : fval x ≠ 0 := by
        have := fval_ge_pow hx; have := Nat.two_pow_pos (bl x - 1); omega
      rcases Nat.lt_or_eq_of_le h2 with h | h
      · have hb : bl (fval x) = bl x := by
          obtain ⟨k, hk⟩ : ∃ k, bl x = k + 1 := ⟨bl x - 1, by omega⟩
          have h3 := fval_ge_pow hx
          rw [hk] at h3 ⊢
          refine bl_of (by simpa using h3) ?_
          rw [hv, hk, show (2 : Nat) ^ (k + 1) = 9007199254740992 * 2 ^ (k + 1 - 53) by rw [show (9007199254740992 : Nat) = 2 ^ 53 from rfl, ← Nat.pow_add]; congr 1; omega]
          exact Nat.mul_lt_mul_of_pos_right h (Nat.two_pow_pos _)
        unfold fbits
        rw [if_neg hv0, if_neg hx, hb, sigf_exact (by omega) hv hb]
      · have e : fval x = 2 ^ bl x := by
          rw [hv, h, show (9007199254740992 : Nat) = 2 ^ 53 from rfl, ← Nat.pow_add]; congr 1; omega
        have hb : bl (fval x) = bl x + 1 := by
          rw [e]; exact bl_of (Nat.le_refl _) (Nat.pow_lt_pow_right (by decide) (by omega))
        have hm : fval x = 4503599627370496 * 2 ^ (bl x + 1 - 53) := by
          rw [e, show (4503599627370496 : Nat) = 2 ^ 52 from rfl, ← Nat.pow_add]; congr 1; omega
        unfold fbits
        rw [if_neg hv0, if_neg hx, hb, sigf_exact (by omega) hm hb, h]
        omega
theorem and_plus_or (x : Nat) : ∀ y, (x &&& y) + (x ||| y) = x + y := by
  induction x using Nat.strongRecOn with
  | _ x ih =>
    intro y
    by_cases hx : x = 0
    · subst hx; simp
    · have h := ih (x / 2) (by omega) (y / 2)
      have e1 := @Nat.and_div_two x y
      have e2 := @Nat.or_div_two x y
      have e3 := @Nat.and_mod_two_eq_one x y
      have e4 := @Nat.or_mod_two_eq_one x y
      generalize x &&& y = p at *
      generalize x ||| y = q at *
      rw [← e1, ← e2] at h
      have := Nat.mod_two_eq_zero_or_one x
      have := Nat.mod_two_eq_zero_or_one y
      omega

end Lm
namespace Go.Proofs.YtldafoojkimdeaaDoor
open Go.RowKit Lm

theorem vec_nat64 (a : Nat) (ha : a < 18446744073709551616) : (BitVec.ofInt 64 (a : Int)).toNat = a := by
  rw [BitVec.ofInt_natCast, BitVec.toNat_ofNat]; exact Nat.mod_eq_of_lt (by omega)
theorem and64 (a b : Nat) (ha : a < 18446744073709551616) (hb : b < 18446744073709551616) : bits .and .u64 (a : Int) (b : Int) = ((a &&& b : Nat) : Int) := by
  show IntKind.u64.wrap ((BitVec.ofInt 64 (a : Int) &&& BitVec.ofInt 64 (b : Int)).toNat : Int) = _
  rw [BitVec.toNat_and, vec_nat64 a ha, vec_nat64 b hb, IntKind.wrap_u64]
  have := Nat.and_le_left (n := a) (m := b)
  omega
theorem and_one (a : Nat) (ha : a < 18446744073709551616) : bits .and .u64 (a : Int) 1 = ((a % 2 : Nat) : Int) := by
  have := and64 a 1 ha (by decide)
  rw [Nat.and_one_is_mod] at this
  exact this

theorem sig_cases (T : Nat) (b : Bool) : (T % 2 = 0 ∧ sig53 T b = T / 2) ∨ (T % 2 = 1 ∧ b = true ∧ sig53 T b = T / 2 + 1) ∨ (T % 2 = 1 ∧ b = false ∧ T / 2 % 2 = 0 ∧ sig53 T b = T / 2) ∨ (T % 2 = 1 ∧ b = false ∧ T / 2 % 2 = 1 ∧ sig53 T b = T / 2 + 1) := by
  unfold sig53
  rcases (show T % 2 = 0 ∨ T % 2 = 1 by omega) with h1 | h1
  · exact .inl ⟨h1, by rw [if_neg (by omega)]; rfl⟩
  · cases b
    · rcases (show T / 2 % 2 = 0 ∨ T / 2 % 2 = 1 by omega) with h2 | h2
      · exact .inr (.inr (.inl ⟨h1, rfl, h2, by rw [if_neg (by simp; omega)]; rfl⟩))
      · exact .inr (.inr (.inr ⟨h1, rfl, h2, by rw [if_pos ⟨h1, .inr h2⟩]⟩))
    · exact .inr (.inl ⟨h1, rfl, by rw [if_pos ⟨h1, .inl rfl⟩]⟩)

set_option maxRecDepth 100000 in
set_option maxHeartbeats 4000000 in
theorem significand_any (aa : Option Addr) (la ca : Nat) (A : List Nat) (s : Nat) (w : World) (hA : Rd w aa la ca A) (hsa : la ≤ 300) (h0 : val A ≠ 0) (hxs : bl (val A) = s) (hs4 : s ≤ 4096) :
    Calls Tryd.prog 108 #[.slice aa la ca, .int .i64 (s : Int)] w fun e w' => e = .returned (.int .u64 ((sigf (val A) : Nat) : Int)) ∧ Below w.heap.size w w' := by
  by_cases hs : 53 < s
  · obtain ⟨n, rfl⟩ : ∃ n, s = n + 54 := ⟨s - 54, by omega⟩
    go_enter Tryd.func108, Tryd.ntmps108
    go_wp2_with fail
    rw [show ((n : Int) + 54 - 53 - 1) = (n : Int) by omega]
    refine (shiftDown_any aa la ca A n w hA (by omega) (by omega)).mono ?_
    rintro e w1 ⟨so, sl, sc, b, rfl, ⟨S, hS, hv, hsl, hl⟩, hb1⟩
    have hvS : val S = top54 (val A) (n + 54) := by unfold top54; rw [if_pos (by omega), hv]; rfl
    have hlb : lost54 (val A) (n + 54) = b := by
      unfold lost54
      rw [show n + 54 - 54 = n by omega, decide_eq_true hs, Bool.true_and]
      cases b
      · rw [decide_eq_false_iff_not]; intro h; exact absurd (hl.2 h) (by decide)
      · rw [decide_eq_true_iff]; exact hl.1 rfl
    clear hv hl
    have hT1 := top54_range h0
    rw [hxs, ← hvS] at hT1
    obtain ⟨T, hT⟩ : ∃ T, T = val S := ⟨_, rfl⟩
    rw [← hT] at hT1
    have hT2 := hT1.2
    have hw : val (S.take 2) = T := by
      rw [hT]
      refine val_take_small 2 ?_
      rw [← hT]
      exact Nat.lt_trans hT2 (by decide)
    have HW := hid hw
    have hsg : sigf (val A) = sig53 T b := by unfold sigf; rw [hxs, ← hvS, ← hT, hlb]
    have HSG := hid hsg
    have a1 := and_one T (by omega)
    have a2 := and_one (T / 2) (by omega)
    rw [show ((T / 2 : Nat) : Int) = (T : Int) / 2 by omega] at a2
    clear hw hT hT1 hvS hlb hsg
    have hcase : (T % 2 = 0 ∧ sig53 T b = T / 2) ∨ (T % 2 = 1 ∧ b = true ∧ sig53 T b = T / 2 + 1) ∨ (T % 2 = 1 ∧ b = false ∧ T / 2 % 2 = 0 ∧ sig53 T b = T / 2) ∨ (T % 2 = 1 ∧ b = false ∧ T / 2 % 2 = 1 ∧ sig53 T b = T / 2 + 1) := sig_cases T b
    rcases hcase with ⟨h1, h2⟩ | ⟨h1, rfl, h2⟩ | ⟨h1, rfl, h3, h2⟩ | ⟨h1, rfl, h3, h2⟩
    all_goals
      rw [h1] at a1
      try rw [h3] at a2
      have H2 := hid h2
      clear h2
      go_wp2_with (go_at_call 72; refine (wordOf_any _ _ _ S _ hS).mono ?_; rintro e w5 ⟨rfl, rfl⟩; rw [HW.out])
      go_ret
      refine ⟨?_, hb1⟩
      rw [HSG.out, H2.out]
      simp
  · obtain ⟨n, hn⟩ : ∃ n, s + n = 54 := ⟨54 - s, by omega⟩
    go_enter Tryd.func108, Tryd.ntmps108
    go_wp2_with fail
    rw [show (54 : Int) - (s : Int) = (n : Int) by omega]
    refine (shiftUp_any aa la ca A n w hA (by omega) (by omega)).mono ?_
    rintro e w1 ⟨g, S, rfl, hg, hR, hSl, hok, hv, hb1⟩
    obtain ⟨b, hbf⟩ : ∃ b : Bool, b = false := ⟨_, rfl⟩
    have hvS : val S = top54 (val A) s := by unfold top54; rw [if_neg hs, hv, show 54 - s = n by omega]
    have hlb : lost54 (val A) s = b := by
      unfold lost54
      rw [decide_eq_false hs, Bool.false_and, hbf]
    have hS := hR.whole hok S.length (Nat.le_refl _) (by omega)
    clear hv hSl
    have hT1 := top54_range h0
    rw [hxs, ← hvS] at hT1
    obtain ⟨T, hT⟩ : ∃ T, T = val S := ⟨_, rfl⟩
    rw [← hT] at hT1
    have hT2 := hT1.2
    have hw : val (S.take 2) = T := by
      rw [hT]
      refine val_take_small 2 ?_
      rw [← hT]
      exact Nat.lt_trans hT2 (by decide)
    have HW := hid hw
    have hsg : sigf (val A) = sig53 T b := by unfold sigf; rw [hxs, ← hvS, ← hT, hlb]
    have HSG := hid hsg
    have a1 := and_one T (by omega)
    have a2 := and_one (T / 2) (by omega)
    rw [show ((T / 2 : Nat) : Int) = (T : Int) / 2 by omega] at a2
    clear hw hT hT1 hvS hlb hsg
    have hcase : (T % 2 = 0 ∧ sig53 T b = T / 2) ∨ (T % 2 = 1 ∧ b = true ∧ sig53 T b = T / 2 + 1) ∨ (T % 2 = 1 ∧ b = false ∧ T / 2 % 2 = 0 ∧ sig53 T b = T / 2) ∨ (T % 2 = 1 ∧ b = false ∧ T / 2 % 2 = 1 ∧ sig53 T b = T / 2 + 1) := sig_cases T b
    rcases hcase with ⟨h1, h2⟩ | ⟨h1, h4, h2⟩ | ⟨h1, h4, h3, h2⟩ | ⟨h1, h4, h3, h2⟩
    rotate_left
    · rw [hbf] at h4; cases h4
    rotate_right
    all_goals
      rw [h1] at a1
      try rw [h3] at a2
      have H2 := hid h2
      clear h2
      go_wp2_with (go_at_call 72; refine (wordOf_any _ _ _ S _ hS).mono ?_; rintro e w5 ⟨rfl, rfl⟩; rw [HW.out])
      go_ret
      refine ⟨?_, hb1⟩
      rw [HSG.out, H2.out]
      simp

/-- The bits of the nearest float of an integer. -/
def ibits (v : Int) : Nat := fbits v.natAbs + if v < 0 then 9223372036854775808 else 0
theorem or_sign (x : Nat) (hx : x < 9223372036854775808) : bits .or .u64 (x : Int) 9223372036854775808 = ((x + 9223372036854775808 : Nat) : Int) := by
  have e := u64_or_nat x 9223372036854775808 (by omega) (by omega)
  rw [Nat.or_comm, nat_join 63 9223372036854775808 x (by decide) hx, Nat.add_comm] at e
  exact e
theorem fbits_bound {x : Nat} (h0 : x ≠ 0) (h : bl x ≤ 1000) : fbits x = (bl x + 1021) * 4503599627370496 + sigf x ∧ fbits x < 9218868437227405312 := by
  obtain ⟨_, h2⟩ := sigf_range h0
  unfold fbits
  rw [if_neg h0]
  exact ⟨rfl, by omega⟩

theorem ibits_pos (A : List Nat) (_h : val A ≠ 0) : ibits (num false A) = fbits (val A) := by
  unfold ibits num
  simp only [Bool.false_eq_true, if_false]
  rw [if_neg (by omega), Int.natAbs_natCast, Nat.add_zero]
theorem ibits_neg (A : List Nat) (h : val A ≠ 0) : ibits (num true A) = fbits (val A) + 9223372036854775808 := by
  unfold ibits num
  simp only [if_true]
  rw [if_pos (by omega), Int.natAbs_neg, Int.natAbs_natCast]

set_option maxRecDepth 100000 in
set_option maxHeartbeats 4000000 in
theorem toFloat_zero (na : Bool) (aa : Option Addr) (la ca : Nat) (A : List Nat) (w : World) (hA : Rd w aa la ca A) (h0 : val A = 0) :
    Calls Tryd.prog 61 #[.agg #[.bool na, .slice aa la ca]] w fun e w' => e = .returned (.tuple #[.int .u64 0, .int .i64 0]) ∧ Below w.heap.size w w' := by
  have hbl : bl (val (tl A)) = 0 := by rw [tl_val, h0]; have := (bl_le 0 0).2 (by simp); omega
  have hA1 := hA.alloc (.cells #[.bool na, .slice aa la ca] 24)
  go_enter Tryd.func61, Tryd.ntmps61
  go_wp2_with (first
    | (go_at_call 71; refine (trim_any _ _ _ A _ hA1).mono ?_; rintro e w5 ⟨rfl, rfl⟩)
    | (go_at_call 75; refine (bitsOf_any _ _ _ (tl A) _ hA1.tl (tl_top A)).mono ?_; rintro e w5 ⟨rfl, rfl⟩; rw [hbl]))
  go_ret2
  exact ⟨rfl, (Below.refl _ _).alloc (Nat.le_refl _) _⟩

set_option maxRecDepth 100000 in
set_option maxHeartbeats 4000000 in
theorem toFloat_good (na : Bool) (aa : Option Addr) (la ca : Nat) (A : List Nat) (w : World) (hA : Rd w aa la ca A) (h0 : val A ≠ 0) (hb : bl (val A) ≤ 1000) (hl : (tl A).length ≤ 300) :
    Calls Tryd.prog 61 #[.agg #[.bool na, .slice aa la ca]] w fun e w' => e = .returned (.tuple #[.int .u64 ((ibits (num na A) : Nat) : Int), .int .i64 0]) ∧ Below w.heap.size w w' := by
  have hA1 := hA.alloc (.cells #[.bool na, .slice aa la ca] 24)
  have hH := hid (heap_alloc_new w (.cells #[.bool na, .slice aa la ca] 24))
  obtain ⟨hf1, hf2⟩ := fbits_bound h0 hb
  have hs0 : 0 < bl (val A) := (bl_low h0).1
  have hbl : bl (val (tl A)) = bl (val A) := by rw [tl_val]
  have hsg0 : sigf (val (tl A)) = sigf (val A) := by rw [tl_val]
  have hvA := tl_val A
  obtain ⟨_, hsr⟩ := sigf_range h0
  obtain ⟨s, hs⟩ : ∃ s, s = bl (val A) := ⟨_, rfl⟩
  obtain ⟨m, hm⟩ : ∃ m, m = sigf (val A) := ⟨_, rfl⟩
  obtain ⟨f, hf⟩ : ∃ f, f = fbits (val A) := ⟨_, rfl⟩
  rw [← hs, ← hm, ← hf] at hf1
  rw [← hf] at hf2
  rw [← hs] at hb hs0 hbl
  rw [← hm] at hsg0 hsr
  have HF := hid hf
  have h0t : val (tl A) ≠ 0 := by rw [hvA]; exact h0
  have H0T := hid h0t
  have hfl : f < 9223372036854775808 := by omega
  have HO := hid (show ((s : Int) + 1023 - 2) * 4503599627370496 + (m : Int) = (f : Int) by omega)
  have HP := hid (ibits_pos A h0)
  have HM := hid (ibits_neg A h0)
  clear hs hm hf h0t hvA
  cases na
  · have HX := HP
    go_enter Tryd.func61, Tryd.ntmps61
    go_wp2_with (first
      | (go_at_call 71; refine (trim_any _ _ _ A _ hA1).mono ?_; rintro e w5 ⟨rfl, rfl⟩)
      | (go_at_call 75; refine (bitsOf_any _ _ _ (tl A) _ hA1.tl (tl_top A)).mono ?_; rintro e w5 ⟨rfl, rfl⟩; rw [hbl])
      | (go_at_call 108; refine (significand_any _ _ _ (tl A) s _ hA1.tl hl H0T.out hbl (by omega)).mono ?_; rintro e w1 ⟨rfl, hb1⟩; rw [hsg0]; obtain ⟨a0, a1, _, _⟩ := two_cells (heap_keep hH.out hb1)))
    go_ret2
    refine ⟨?_, ((Below.refl _ _).alloc (Nat.le_refl _) _).trans (hb1.mono (by simp))⟩
    rw [HX.out, ← HF.out, ← HO.out]
    rfl
  · have HX := HM
    go_enter Tryd.func61, Tryd.ntmps61
    go_wp2_with (first
      | (go_at_call 71; refine (trim_any _ _ _ A _ hA1).mono ?_; rintro e w5 ⟨rfl, rfl⟩)
      | (go_at_call 75; refine (bitsOf_any _ _ _ (tl A) _ hA1.tl (tl_top A)).mono ?_; rintro e w5 ⟨rfl, rfl⟩; rw [hbl])
      | (go_at_call 108; refine (significand_any _ _ _ (tl A) s _ hA1.tl hl H0T.out hbl (by omega)).mono ?_; rintro e w1 ⟨rfl, hb1⟩; rw [hsg0]; obtain ⟨a0, a1, _, _⟩ := two_cells (heap_keep hH.out hb1)))
    go_ret2
    refine ⟨?_, ((Below.refl _ _).alloc (Nat.le_refl _) _).trans (hb1.mono (by simp))⟩
    rw [HX.out, ← HF.out, ← or_sign f hfl, ← HO.out]
    rfl

theorem andnot_sign (F R : Nat) (hF : F < 18446744073709551616) (hR : F % 9223372036854775808 = R) : bits .andNot .u64 (F : Int) 9223372036854775808 = (R : Int) := by
  show IntKind.u64.wrap ((BitVec.ofInt 64 (F : Int) &&& ~~~ BitVec.ofInt 64 9223372036854775808).toNat : Int) = _
  rw [BitVec.toNat_and, vec_nat64 F hF, show (~~~ BitVec.ofInt 64 9223372036854775808).toNat = 2 ^ 63 - 1 by decide, Nat.and_two_pow_sub_one_eq_mod, IntKind.wrap_u64]
  omega
theorem and_sign (F : Nat) (hF : F < 18446744073709551616) (c : Nat) (hc : F / 9223372036854775808 = c) : bits .and .u64 (F : Int) 9223372036854775808 = ((c * 9223372036854775808 : Nat) : Int) := by
  have e := and64 F 9223372036854775808 hF (by decide)
  have e2 : F &&& 9223372036854775808 = c * 9223372036854775808 := by
    have h1 := and_plus_or F 9223372036854775808
    have hc2 : c = 0 ∨ c = 1 := by omega
    rcases hc2 with rfl | rfl
    · have h2 := nat_join 63 9223372036854775808 F (by decide) (by omega)
      rw [Nat.or_comm] at h2; omega
    · obtain ⟨G, hG⟩ : ∃ G, F = 9223372036854775808 + G := ⟨F - 9223372036854775808, by omega⟩
      have h2 := nat_join 63 9223372036854775808 G (by decide) (by omega)
      have h3 : F ||| 9223372036854775808 = F := by
        rw [hG, ← h2, Nat.or_comm, ← Nat.or_assoc, Nat.or_self]
      omega
  rw [e2] at e
  exact e
theorem and_mant (R : Nat) (hR : R < 18446744073709551616) : bits .and .u64 (R : Int) 4503599627370495 = ((R % 4503599627370496 : Nat) : Int) := by
  have e := and64 R 4503599627370495 hR (by decide)
  have e2 : R &&& 4503599627370495 = R % 4503599627370496 := Nat.and_two_pow_sub_one_eq_mod R 52
  rw [e2] at e
  exact e
theorem or_first (x : Nat) (hx : x < 4503599627370496) : bits .or .u64 (x : Int) 4503599627370496 = ((x + 4503599627370496 : Nat) : Int) := by
  have e := u64_or_nat x 4503599627370496 (by omega) (by omega)
  rw [Nat.or_comm, nat_join 52 4503599627370496 x (by decide) hx, Nat.add_comm] at e
  exact e
theorem two_val (n : Nat) (h : n < 18446744073709551616) : val [n % 4294967296, n / 4294967296] = n := by simp [val]; omega
theorem two_ok (n : Nat) (h : n < 18446744073709551616) : Ok [n % 4294967296, n / 4294967296] := (Ok.nil.cons (by omega)).cons (Nat.mod_lt _ (by decide))

set_option maxRecDepth 100000 in
set_option maxHeartbeats 4000000 in
theorem ofFloat_zero (w : World) : Calls Tryd.prog 63 #[.int .u64 0] w fun e w' => e = .returned (.tuple #[.agg #[.bool false, .slice none 0 0], .int .i64 0]) ∧ Below w.heap.size w w' := by
  have a1 : bits .andNot .u64 0 9223372036854775808 = 0 := andnot_sign 0 0 (by decide) rfl
  obtain ⟨c0, c1, f0, f1⟩ := two_cells (heap_alloc_new w (.cells #[.bool false, .slice none 0 0] 24))
  go_enter Tryd.func63, Tryd.ntmps63
  go_wp2
  refine bodyPost_ret (v := .tuple #[.agg #[.bool false, .slice none 0 0], .int .i64 0]) (by simp [results, Tryd.results63, go_sem, c0, c1]) rfl ⟨rfl, ?_⟩
  exact (Below.refl w.heap.size w).alloc (Nat.le_refl _) _

set_option maxRecDepth 100000 in
set_option maxHeartbeats 4000000 in
theorem ofFloat_good (F R u q c : Nat) (w : World) (hF : F < 18446744073709551616) (hR : F % 9223372036854775808 = R) (hc : F / 9223372036854775808 = c) (hR2 : R < 9218868437227405312) (hq : R / 4503599627370496 = u + 1023) (hm : R % 4503599627370496 + 4503599627370496 = q) (hu : u ≤ 2000) :
    Calls Tryd.prog 63 #[.int .u64 (F : Int)] w fun e w' => ∃ n' ao' len' cc, e = .returned (.tuple #[.agg #[.bool n', .slice ao' len' len'], .int .i64 cc]) ∧ Fits w w' n' ao' len' cc (if c = 0 then ((fread R : Nat) : Int) else -((fread R : Nat) : Int)) ∧ Below w.heap.size w w' := by
  have a1 := andnot_sign F R hF hR
  have a2 := and_sign F hF c hc
  obtain ⟨M, hM⟩ : ∃ M, M = R % 4503599627370496 := ⟨_, rfl⟩
  have a3 := and_mant R (by omega)
  have a4 := or_first M (by omega)
  rw [← hM] at a3 hm
  rw [hm] at a4
  have hq2 : (R : Int) / 4503599627370496 = (u : Int) + 1023 := by omega
  have hC : ¬ (9218868437227405312 : Int) ≤ (R : Int) := by omega
  have HQL := hid (show q < 18446744073709551616 by omega)
  have hfr : fread R = if u < 53 then q / 2 ^ (52 - u) else q * 2 ^ (u - 52) := by
    unfold fread
    rw [hq, if_neg (by omega), ← hM, hm, Nat.add_sub_cancel]
  have HFR := hid hfr
  have hc2 : c = 0 ∨ c = 1 := by omega
  have H0 := hid (heap_alloc_new w (.cells #[.bool false, .slice none 0 0] 24))
  have hb0 : Below w.heap.size w (w.alloc (.cells #[.bool false, .slice none 0 0] 24)) := (Below.refl _ _).alloc (Nat.le_refl _) _
  have hs0 : w.heap.size < (w.alloc (.cells #[.bool false, .slice none 0 0] 24)).heap.size := by simp
  clear hfr hM hm hq hR2 hc hR hF
  rcases hc2 with hcc | hcc
  · rw [if_pos hcc]
    rw [hcc] at a2
    replace a2 : bits .and .u64 (F : Int) 9223372036854775808 = 0 := a2
    clear hcc
    by_cases hu53 : u < 53
    · have hif : fread R = q / 2 ^ (52 - u) := by rw [HFR.out, if_pos hu53]
      have HIF := hid hif
      obtain ⟨n, hn⟩ : ∃ n, u + n = 52 := ⟨52 - u, by omega⟩
      clear hif
      go_enter Tryd.func63, Tryd.ntmps63
      go_wp2_with (first
        | (go_at_call 70; refine (limbsOf_any q _ HQL.out).mono ?_; rintro e w1 ⟨g, rfl, hg, hR1, hb1⟩; have hRd := (show Rd w1 (some ⟨g, 0, none⟩) 2 2 [q % 4294967296, q / 4294967296] from hR1.whole (two_ok q HQL.out) 2 (by simp) (by omega)); have H1 := hid (heap_keep H0.out hb1); clear hC)
        | (go_at_call 110; rw [show (52 : Int) - (u : Int) = (n : Int) by omega]; refine (shiftDown_any _ _ _ _ n _ hRd (by omega) (by omega)).mono ?_; rintro e w2 ⟨so, sl, sc, b, rfl, ⟨S, hS, hv, hsl, _⟩, hb2⟩; have HN := hid (show num false S = ((fread R : Nat) : Int) by rw [HIF.out, show 52 - u = n by omega, ← two_val q HQL.out, ← hv]; rfl); clear hv; have H2 := hid (heap_keep H1.out hb2))
        | (go_at_call 78; refine (fit_any _ _ _ _ S _ hS).mono ?_; rintro e w3 ⟨n', ao', len', cc, rfl, hfit, hb3⟩; obtain ⟨c0, c1, f0, f1⟩ := two_cells (heap_keep H2.out hb3)))
      have hby : Below w.heap.size w w1 := hb0.trans (hb1.mono (Nat.le_of_lt hs0))
      have hbx : Below w.heap.size w w2 := hby.trans (hb2.mono hby.size)
      have hlt : w.heap.size < w2.heap.size := lt_of_block H2.out
      rw [HN.out] at hfit
      refine bodyPost_ret (v := .tuple #[.agg #[.bool n', .slice ao' len' len'], .int .i64 cc]) (by simp [results, Tryd.results63, go_sem, c0, c1]) rfl ⟨_, _, _, _, rfl, ?_, ?_⟩
      · exact hfit.set2 hbx.size hlt hlt _ _
      · exact ((hbx.trans (hb3.mono hbx.size)).setCell (Nat.le_refl _) _).setCell (Nat.le_refl _) _
    · have hif : fread R = q * 2 ^ (u - 52) := by rw [HFR.out, if_neg hu53]
      have HIF := hid hif
      obtain ⟨n, hn⟩ : ∃ n, u = n + 52 := ⟨u - 52, by omega⟩
      have HNN := hid hn
      clear hif hn
      go_enter Tryd.func63, Tryd.ntmps63
      go_wp2_with (first
        | (go_at_call 70; refine (limbsOf_any q _ HQL.out).mono ?_; rintro e w1 ⟨g, rfl, hg, hR1, hb1⟩; have hRd := (show Rd w1 (some ⟨g, 0, none⟩) 2 2 [q % 4294967296, q / 4294967296] from hR1.whole (two_ok q HQL.out) 2 (by simp) (by omega)); have H1 := hid (heap_keep H0.out hb1); clear hC)
        | (go_at_call 97; rw [show (u : Int) - 52 = (n : Int) by have := HNN.out; omega]; refine (shiftUp_any _ _ _ _ n _ hRd (by omega) (by have := HNN.out; omega)).mono ?_; rintro e w2 ⟨gs, S, rfl, hgs, hSR, hSl, hok, hv, hb2⟩; have HN := hid (show num false S = ((fread R : Nat) : Int) by rw [HIF.out, show u - 52 = n by have := HNN.out; omega, ← two_val q HQL.out, ← hv]; rfl); have hS := hSR.whole hok S.length (Nat.le_refl _) (by have := HNN.out; omega); clear hv hSl; have H2 := hid (heap_keep H1.out hb2))
        | (go_at_call 78; refine (fit_any _ _ _ _ S _ hS).mono ?_; rintro e w3 ⟨n', ao', len', cc, rfl, hfit, hb3⟩; obtain ⟨c0, c1, f0, f1⟩ := two_cells (heap_keep H2.out hb3)))
      have hby : Below w.heap.size w w1 := hb0.trans (hb1.mono (Nat.le_of_lt hs0))
      have hbx : Below w.heap.size w w2 := hby.trans (hb2.mono hby.size)
      have hlt : w.heap.size < w2.heap.size := lt_of_block H2.out
      rw [HN.out] at hfit
      refine bodyPost_ret (v := .tuple #[.agg #[.bool n', .slice ao' len' len'], .int .i64 cc]) (by simp [results, Tryd.results63, go_sem, c0, c1]) rfl ⟨_, _, _, _, rfl, ?_, ?_⟩
      · exact hfit.set2 hbx.size hlt hlt _ _
      · exact ((hbx.trans (hb3.mono hbx.size)).setCell (Nat.le_refl _) _).setCell (Nat.le_refl _) _
  · rw [if_neg (by omega)]
    rw [hcc] at a2
    replace a2 : bits .and .u64 (F : Int) 9223372036854775808 = 9223372036854775808 := a2
    clear hcc
    by_cases hu53 : u < 53
    · have hif : fread R = q / 2 ^ (52 - u) := by rw [HFR.out, if_pos hu53]
      have HIF := hid hif
      obtain ⟨n, hn⟩ : ∃ n, u + n = 52 := ⟨52 - u, by omega⟩
      clear hif
      go_enter Tryd.func63, Tryd.ntmps63
      go_wp2_with (first
        | (go_at_call 70; refine (limbsOf_any q _ HQL.out).mono ?_; rintro e w1 ⟨g, rfl, hg, hR1, hb1⟩; have hRd := (show Rd w1 (some ⟨g, 0, none⟩) 2 2 [q % 4294967296, q / 4294967296] from hR1.whole (two_ok q HQL.out) 2 (by simp) (by omega)); have H1 := hid (heap_keep H0.out hb1); clear hC)
        | (go_at_call 110; rw [show (52 : Int) - (u : Int) = (n : Int) by omega]; refine (shiftDown_any _ _ _ _ n _ hRd (by omega) (by omega)).mono ?_; rintro e w2 ⟨so, sl, sc, b, rfl, ⟨S, hS, hv, hsl, _⟩, hb2⟩; have HN := hid (show num true S = -((fread R : Nat) : Int) by rw [HIF.out, show 52 - u = n by omega, ← two_val q HQL.out, ← hv]; rfl); clear hv; have H2 := hid (heap_keep H1.out hb2))
        | (go_at_call 78; refine (fit_any _ _ _ _ S _ hS).mono ?_; rintro e w3 ⟨n', ao', len', cc, rfl, hfit, hb3⟩; obtain ⟨c0, c1, f0, f1⟩ := two_cells (heap_keep H2.out hb3)))
      have hby : Below w.heap.size w w1 := hb0.trans (hb1.mono (Nat.le_of_lt hs0))
      have hbx : Below w.heap.size w w2 := hby.trans (hb2.mono hby.size)
      have hlt : w.heap.size < w2.heap.size := lt_of_block H2.out
      rw [HN.out] at hfit
      refine bodyPost_ret (v := .tuple #[.agg #[.bool n', .slice ao' len' len'], .int .i64 cc]) (by simp [results, Tryd.results63, go_sem, c0, c1]) rfl ⟨_, _, _, _, rfl, ?_, ?_⟩
      · exact hfit.set2 hbx.size hlt hlt _ _
      · exact ((hbx.trans (hb3.mono hbx.size)).setCell (Nat.le_refl _) _).setCell (Nat.le_refl _) _
    · have hif : fread R = q * 2 ^ (u - 52) := by rw [HFR.out, if_neg hu53]
      have HIF := hid hif
      obtain ⟨n, hn⟩ : ∃ n, u = n + 52 := ⟨u - 52, by omega⟩
      have HNN := hid hn
      clear hif hn
      go_enter Tryd.func63, Tryd.ntmps63
      go_wp2_with (first
        | (go_at_call 70; refine (limbsOf_any q _ HQL.out).mono ?_; rintro e w1 ⟨g, rfl, hg, hR1, hb1⟩; have hRd := (show Rd w1 (some ⟨g, 0, none⟩) 2 2 [q % 4294967296, q / 4294967296] from hR1.whole (two_ok q HQL.out) 2 (by simp) (by omega)); have H1 := hid (heap_keep H0.out hb1); clear hC)
        | (go_at_call 97; rw [show (u : Int) - 52 = (n : Int) by have := HNN.out; omega]; refine (shiftUp_any _ _ _ _ n _ hRd (by omega) (by have := HNN.out; omega)).mono ?_; rintro e w2 ⟨gs, S, rfl, hgs, hSR, hSl, hok, hv, hb2⟩; have HN := hid (show num true S = -((fread R : Nat) : Int) by rw [HIF.out, show u - 52 = n by have := HNN.out; omega, ← two_val q HQL.out, ← hv]; rfl); have hS := hSR.whole hok S.length (Nat.le_refl _) (by have := HNN.out; omega); clear hv hSl; have H2 := hid (heap_keep H1.out hb2))
        | (go_at_call 78; refine (fit_any _ _ _ _ S _ hS).mono ?_; rintro e w3 ⟨n', ao', len', cc, rfl, hfit, hb3⟩; obtain ⟨c0, c1, f0, f1⟩ := two_cells (heap_keep H2.out hb3)))
      have hby : Below w.heap.size w w1 := hb0.trans (hb1.mono (Nat.le_of_lt hs0))
      have hbx : Below w.heap.size w w2 := hby.trans (hb2.mono hby.size)
      have hlt : w.heap.size < w2.heap.size := lt_of_block H2.out
      rw [HN.out] at hfit
      refine bodyPost_ret (v := .tuple #[.agg #[.bool n', .slice ao' len' len'], .int .i64 cc]) (by simp [results, Tryd.results63, go_sem, c0, c1]) rfl ⟨_, _, _, _, rfl, ?_, ?_⟩
      · exact hfit.set2 hbx.size hlt hlt _ _
      · exact ((hbx.trans (hb3.mono hbx.size)).setCell (Nat.le_refl _) _).setCell (Nat.le_refl _) _

/-- The value of the nearest float of an integer. -/
def ival (v : Int) : Int := if v < 0 then -((fval v.natAbs : Nat) : Int) else ((fval v.natAbs : Nat) : Int)
theorem bl_of_lt {k : Nat} {v : Int} (h : Lt k v) : bl v.natAbs ≤ k := (bl_le _ _).2 h
theorem toFloat_ok {na : Bool} {aa : Option Addr} {la ca : Nat} {A : List Nat} {va : Int} (w : World) (hA : Rd w aa la ca A) (ea : num na A = va) (l : Lt 993 va) :
    Calls Tryd.prog 61 #[.agg #[.bool na, .slice aa la ca]] w fun e w' => e = .returned (.tuple #[.int .u64 ((ibits va : Nat) : Int), .int .i64 0]) ∧ Below w.heap.size w w' := by
  have hb := bl_of_lt l
  rw [← val_of_num ea] at hb
  by_cases h0 : val A = 0
  · have hv : va = 0 := by rw [← ea]; exact num_zero_of h0
    have hi : ibits va = 0 := by rw [hv]; unfold ibits fbits; simp
    rw [hi]
    exact toFloat_zero na aa la ca A w hA h0
  · have hl : (tl A).length ≤ 32 := len_of_bl A 32 (by omega)
    have := toFloat_good na aa la ca A w hA h0 (by omega) (by omega)
    rw [ea] at this
    exact this
theorem ival_lt {k : Nat} {v : Int} (l : Lt k v) : Lt (k + 1) (ival v) := by
  have h : (ival v).natAbs = fval v.natAbs := by unfold ival; split <;> omega
  unfold Lt
  rw [h]
  by_cases h0 : v.natAbs = 0
  · rw [h0, fval_zero]; exact Nat.two_pow_pos _
  · have h1 := fval_le_pow h0
    have h2 := bl_of_lt l
    exact Nat.lt_of_le_of_lt h1 (Nat.pow_lt_pow_right (by decide) (by omega))
theorem ofFloat_ok (v : Int) (w : World) (l : Lt 992 v) :
    Calls Tryd.prog 63 #[.int .u64 ((ibits v : Nat) : Int)] w fun e w' => ∃ n' ao' len' C, e = .returned (.tuple #[.agg #[.bool n', .slice ao' len' len'], .int .i64 0]) ∧ Rd w' ao' len' len' C ∧ num n' C = ival v ∧ Below w.heap.size w w' := by
  have hb := bl_of_lt l
  by_cases h0 : v.natAbs = 0
  · have hv : v = 0 := by omega
    have hi : ibits v = 0 := by rw [hv]; unfold ibits fbits; simp
    rw [hi]
    refine (ofFloat_zero w).mono ?_
    rintro e w' ⟨rfl, h⟩
    refine ⟨false, none, 0, [], rfl, rd_nil0 _, ?_, h⟩
    rw [hv]; unfold ival; simp [fval_zero]; rfl
  · obtain ⟨hf1, hf2⟩ := fbits_bound h0 (by omega)
    obtain ⟨s1, s2⟩ := sigf_range h0
    obtain ⟨b0, _, _⟩ := bl_low h0
    have sm : Sm (ival v) := (ival_lt l).sm (by decide)
    have hx := fread_fbits v.natAbs
    have key : ∀ c, (ibits v) / 9223372036854775808 = c → (ibits v) % 9223372036854775808 = fbits v.natAbs → ibits v < 18446744073709551616 → (if c = 0 then ((fread (fbits v.natAbs) : Nat) : Int) else -((fread (fbits v.natAbs) : Nat) : Int)) = ival v → Calls Tryd.prog 63 #[.int .u64 ((ibits v : Nat) : Int)] w fun e w' => ∃ n' ao' len' C, e = .returned (.tuple #[.agg #[.bool n', .slice ao' len' len'], .int .i64 0]) ∧ Rd w' ao' len' len' C ∧ num n' C = ival v ∧ Below w.heap.size w w' := by
      intro c h1 h2 h3 h4
      refine (ofFloat_good (ibits v) (fbits v.natAbs) (fbits v.natAbs / 4503599627370496 - 1023) _ c w h3 h2 h1 hf2 (by omega) rfl (by omega)).mono ?_
      rintro e w' ⟨n', ao', len', cc, rfl, hfit, hb2⟩
      rw [h4] at hfit
      obtain ⟨rfl, C, r1, r2⟩ := hfit.read sm
      exact ⟨n', ao', len', C, rfl, r1, r2, hb2⟩
    by_cases hn : v < 0
    · have e : ibits v = fbits v.natAbs + 9223372036854775808 := by unfold ibits; rw [if_pos hn]
      refine key 1 (by omega) (by omega) (by omega) ?_
      rw [if_neg (by decide), hx]; unfold ival; rw [if_pos hn]
    · have e : ibits v = fbits v.natAbs := by unfold ibits; rw [if_neg hn, Nat.add_zero]
      refine key 0 (by omega) (by omega) (by omega) ?_
      rw [if_pos rfl, hx]; unfold ival; rw [if_neg hn]
theorem ibits_ival (v : Int) : ibits (ival v) = ibits v := by
  by_cases h0 : v.natAbs = 0
  · have hv : v = 0 := by omega
    rw [hv]; unfold ival; simp [fval_zero]
  · have hp := fval_ge_pow h0
    have hp2 := Nat.two_pow_pos (bl v.natAbs - 1)
    have hf := fbits_fval v.natAbs
    by_cases hn : v < 0
    · have e : ival v = -((fval v.natAbs : Nat) : Int) := by unfold ival; rw [if_pos hn]
      unfold ibits
      rw [e, Int.natAbs_neg, Int.natAbs_natCast, hf, if_pos hn, if_pos (by omega)]
    · have e : ival v = ((fval v.natAbs : Nat) : Int) := by unfold ival; rw [if_neg hn]
      unfold ibits
      rw [e, Int.natAbs_natCast, hf, if_neg hn, if_neg (by omega)]
theorem ival_mono {u v : Int} (h : u ≤ v) : ival u ≤ ival v := by
  unfold ival
  by_cases hu : u < 0
  · rw [if_pos hu]
    by_cases hv : v < 0
    · rw [if_pos hv]
      have := fval_mono (show v.natAbs ≤ u.natAbs by omega)
      omega
    · rw [if_neg hv]; omega
  · rw [if_neg hu, if_neg (by omega)]
    have := fval_mono (show u.natAbs ≤ v.natAbs by omega)
    omega
theorem near_order (u v : Int) : (ival u - ival v).sign = (u - v).sign ∨ ((ival u - ival v).sign = 0 ∧ ((u - v).sign = 1 ∨ (u - v).sign = -1)) := by
  rcases sign_three (u - v) with ⟨h1, h2⟩ | ⟨h1, h2⟩ | ⟨h1, h2⟩
  · have := ival_mono (show v ≤ u by omega)
    rcases sign_three (ival u - ival v) with ⟨k1, k2⟩ | ⟨k1, k2⟩ | ⟨k1, k2⟩
    · exact .inl (by rw [k1, h1])
    · exact .inr ⟨k1, .inl h1⟩
    · omega
  · have : u = v := by omega
    subst this
    exact .inl (by rw [Int.sub_self, Int.sub_self])
  · have := ival_mono (show u ≤ v by omega)
    rcases sign_three (ival u - ival v) with ⟨k1, k2⟩ | ⟨k1, k2⟩ | ⟨k1, k2⟩
    · omega
    · exact .inr ⟨k1, .inr h1⟩
    · exact .inl (by rw [k1, h1])
theorem near_small {v : Int} (h : ¬ 53 < bl v.natAbs) : ((v - ival v).natAbs : Int) ≤ 0 := by
  have e : fval v.natAbs = v.natAbs := by unfold fval; rw [if_pos (by omega)]
  unfold ival
  rw [e]; split <;> omega
theorem near_large {v : Int} (n : Nat) (h : bl v.natAbs = n + 54) : ((v - ival v).natAbs : Int) ≤ 1 * (2 : Int) ^ n := by
  obtain ⟨h1, h2⟩ := fval_near v.natAbs (by omega)
  rw [h, show n + 54 - 54 = n by omega] at h1 h2
  have e : (1 : Int) * (2 : Int) ^ n = ((2 ^ n : Nat) : Int) := by simp
  rw [e]
  unfold ival
  generalize fval v.natAbs = f at *
  generalize 2 ^ n = p at *
  split <;> omega
theorem sign_le {x : Int} (h : x ≤ 0) : x.sign = 0 ∨ x.sign = -1 := by
  rcases sign_three x with ⟨h1, h2⟩ | ⟨h1, _⟩ | ⟨h1, _⟩
  · omega
  · exact .inl h1
  · exact .inr h1
end Go.Proofs.YtldafoojkimdeaaDoor

namespace Go.Proofs.YtldafoojkimdeaaDoor
open Go.RowKit Lm

theorem fbits_eq {x : Nat} (h0 : x ≠ 0) : fbits x = (bl x + 1021) * 4503599627370496 + sigf x := by
  unfold fbits
  rw [if_neg h0]

set_option maxRecDepth 100000 in
set_option maxHeartbeats 4000000 in
theorem toFloat_long (na : Bool) (aa : Option Addr) (la ca : Nat) (A : List Nat) (w : World) (hA : Rd w aa la ca A) (hb : 4096 < bl (val A)) :
    Calls Tryd.prog 61 #[.agg #[.bool na, .slice aa la ca]] w fun e w' => e = .returned (.tuple #[.int .u64 0, .int .i64 10]) ∧ Below w.heap.size w w' := by
  have hbl : bl (val (tl A)) = bl (val A) := by rw [tl_val]
  obtain ⟨s, hs⟩ : ∃ s, s = bl (val A) := ⟨_, rfl⟩
  rw [← hs] at hbl hb
  clear hs
  have hA1 := hA.alloc (.cells #[.bool na, .slice aa la ca] 24)
  go_enter Tryd.func61, Tryd.ntmps61
  go_wp2_with (first
    | (go_at_call 71; refine (trim_any _ _ _ A _ hA1).mono ?_; rintro e w5 ⟨rfl, rfl⟩)
    | (go_at_call 75; refine (bitsOf_any _ _ _ (tl A) _ hA1.tl (tl_top A)).mono ?_; rintro e w5 ⟨rfl, rfl⟩; rw [hbl]))
  go_ret2
  exact ⟨rfl, (Below.refl _ _).alloc (Nat.le_refl _) _⟩

set_option maxRecDepth 100000 in
set_option maxHeartbeats 4000000 in
theorem toFloat_far (na : Bool) (aa : Option Addr) (la ca : Nat) (A : List Nat) (w : World) (hA : Rd w aa la ca A) (hb : 1024 < bl (val A)) (hb2 : bl (val A) ≤ 4096) :
    Calls Tryd.prog 61 #[.agg #[.bool na, .slice aa la ca]] w fun e w' => e = .returned (.tuple #[.int .u64 0, .int .i64 14]) ∧ Below w.heap.size w w' := by
  have hbl : bl (val (tl A)) = bl (val A) := by rw [tl_val]
  obtain ⟨s, hs⟩ : ∃ s, s = bl (val A) := ⟨_, rfl⟩
  rw [← hs] at hbl hb hb2
  clear hs
  have hA1 := hA.alloc (.cells #[.bool na, .slice aa la ca] 24)
  go_enter Tryd.func61, Tryd.ntmps61
  go_wp2_with (first
    | (go_at_call 71; refine (trim_any _ _ _ A _ hA1).mono ?_; rintro e w5 ⟨rfl, rfl⟩)
    | (go_at_call 75; refine (bitsOf_any _ _ _ (tl A) _ hA1.tl (tl_top A)).mono ?_; rintro e w5 ⟨rfl, rfl⟩; rw [hbl]))
  go_ret2
  exact ⟨rfl, (Below.refl _ _).alloc (Nat.le_refl _) _⟩

set_option maxRecDepth 100000 in
set_option maxHeartbeats 4000000 in
theorem toFloat_inf (na : Bool) (aa : Option Addr) (la ca : Nat) (A : List Nat) (w : World) (hA : Rd w aa la ca A) (h0 : val A ≠ 0) (hb : bl (val A) ≤ 1024) (hl : (tl A).length ≤ 300) (hf2 : 9218868437227405312 ≤ fbits (val A)) :
    Calls Tryd.prog 61 #[.agg #[.bool na, .slice aa la ca]] w fun e w' => e = .returned (.tuple #[.int .u64 0, .int .i64 14]) ∧ Below w.heap.size w w' := by
  have hA1 := hA.alloc (.cells #[.bool na, .slice aa la ca] 24)
  have hf1 := fbits_eq h0
  have hs0 : 0 < bl (val A) := (bl_low h0).1
  have hbl : bl (val (tl A)) = bl (val A) := by rw [tl_val]
  have hsg0 : sigf (val (tl A)) = sigf (val A) := by rw [tl_val]
  have hvA := tl_val A
  obtain ⟨_, hsr⟩ := sigf_range h0
  obtain ⟨s, hs⟩ : ∃ s, s = bl (val A) := ⟨_, rfl⟩
  obtain ⟨m, hm⟩ : ∃ m, m = sigf (val A) := ⟨_, rfl⟩
  obtain ⟨f, hf⟩ : ∃ f, f = fbits (val A) := ⟨_, rfl⟩
  rw [← hs, ← hm, ← hf] at hf1
  rw [← hf] at hf2
  rw [← hs] at hb hs0 hbl
  rw [← hm] at hsg0 hsr
  have h0t : val (tl A) ≠ 0 := by rw [hvA]; exact h0
  have H0T := hid h0t
  have HO : (9218868437227405312 : Int) ≤ ((s : Int) + 1023 - 2) * 4503599627370496 + (m : Int) := by omega
  clear hs hm hf h0t hvA hf2 hf1
  go_enter Tryd.func61, Tryd.ntmps61
  go_wp2_with (first
    | (go_at_call 71; refine (trim_any _ _ _ A _ hA1).mono ?_; rintro e w5 ⟨rfl, rfl⟩)
    | (go_at_call 75; refine (bitsOf_any _ _ _ (tl A) _ hA1.tl (tl_top A)).mono ?_; rintro e w5 ⟨rfl, rfl⟩; rw [hbl])
    | (go_at_call 108; refine (significand_any _ _ _ (tl A) s _ hA1.tl hl H0T.out hbl (by omega)).mono ?_; rintro e w1 ⟨rfl, hb1⟩; rw [hsg0]))
  go_ret2
  exact ⟨rfl, ((Below.refl _ _).alloc (Nat.le_refl _) _).trans (hb1.mono (by simp))⟩

set_option maxRecDepth 100000 in
set_option maxHeartbeats 4000000 in
theorem toFloat_fin (na : Bool) (aa : Option Addr) (la ca : Nat) (A : List Nat) (w : World) (hA : Rd w aa la ca A) (h0 : val A ≠ 0) (hb : bl (val A) ≤ 1024) (hl : (tl A).length ≤ 300) (hf2 : fbits (val A) < 9218868437227405312) :
    Calls Tryd.prog 61 #[.agg #[.bool na, .slice aa la ca]] w fun e w' => e = .returned (.tuple #[.int .u64 ((ibits (num na A) : Nat) : Int), .int .i64 0]) ∧ Below w.heap.size w w' := by
  have hA1 := hA.alloc (.cells #[.bool na, .slice aa la ca] 24)
  have hH := hid (heap_alloc_new w (.cells #[.bool na, .slice aa la ca] 24))
  have hf1 := fbits_eq h0
  have hs0 : 0 < bl (val A) := (bl_low h0).1
  have hbl : bl (val (tl A)) = bl (val A) := by rw [tl_val]
  have hsg0 : sigf (val (tl A)) = sigf (val A) := by rw [tl_val]
  have hvA := tl_val A
  obtain ⟨_, hsr⟩ := sigf_range h0
  obtain ⟨s, hs⟩ : ∃ s, s = bl (val A) := ⟨_, rfl⟩
  obtain ⟨m, hm⟩ : ∃ m, m = sigf (val A) := ⟨_, rfl⟩
  obtain ⟨f, hf⟩ : ∃ f, f = fbits (val A) := ⟨_, rfl⟩
  rw [← hs, ← hm, ← hf] at hf1
  rw [← hf] at hf2
  rw [← hs] at hb hs0 hbl
  rw [← hm] at hsg0 hsr
  have HF := hid hf
  have h0t : val (tl A) ≠ 0 := by rw [hvA]; exact h0
  have H0T := hid h0t
  have hfl : f < 9223372036854775808 := by omega
  have HO := hid (show ((s : Int) + 1023 - 2) * 4503599627370496 + (m : Int) = (f : Int) by omega)
  have HP := hid (ibits_pos A h0)
  have HM := hid (ibits_neg A h0)
  clear hs hm hf h0t hvA
  cases na
  · have HX := HP
    go_enter Tryd.func61, Tryd.ntmps61
    go_wp2_with (first
      | (go_at_call 71; refine (trim_any _ _ _ A _ hA1).mono ?_; rintro e w5 ⟨rfl, rfl⟩)
      | (go_at_call 75; refine (bitsOf_any _ _ _ (tl A) _ hA1.tl (tl_top A)).mono ?_; rintro e w5 ⟨rfl, rfl⟩; rw [hbl])
      | (go_at_call 108; refine (significand_any _ _ _ (tl A) s _ hA1.tl hl H0T.out hbl (by omega)).mono ?_; rintro e w1 ⟨rfl, hb1⟩; rw [hsg0]; obtain ⟨a0, a1, _, _⟩ := two_cells (heap_keep hH.out hb1)))
    go_ret2
    refine ⟨?_, ((Below.refl _ _).alloc (Nat.le_refl _) _).trans (hb1.mono (by simp))⟩
    rw [HX.out, ← HF.out, ← HO.out]
    rfl
  · have HX := HM
    go_enter Tryd.func61, Tryd.ntmps61
    go_wp2_with (first
      | (go_at_call 71; refine (trim_any _ _ _ A _ hA1).mono ?_; rintro e w5 ⟨rfl, rfl⟩)
      | (go_at_call 75; refine (bitsOf_any _ _ _ (tl A) _ hA1.tl (tl_top A)).mono ?_; rintro e w5 ⟨rfl, rfl⟩; rw [hbl])
      | (go_at_call 108; refine (significand_any _ _ _ (tl A) s _ hA1.tl hl H0T.out hbl (by omega)).mono ?_; rintro e w1 ⟨rfl, hb1⟩; rw [hsg0]; obtain ⟨a0, a1, _, _⟩ := two_cells (heap_keep hH.out hb1)))
    go_ret2
    refine ⟨?_, ((Below.refl _ _).alloc (Nat.le_refl _) _).trans (hb1.mono (by simp))⟩
    rw [HX.out, ← HF.out, ← or_sign f hfl, ← HO.out]
    rfl

set_option maxRecDepth 100000 in
set_option maxHeartbeats 4000000 in
/-- OfFloat of what is no finite float. -/
theorem ofFloat_inf (F R : Nat) (w : World) (hF : F < 18446744073709551616) (hR : F % 9223372036854775808 = R) (hR2 : 9218868437227405312 ≤ R) :
    Calls Tryd.prog 63 #[.int .u64 (F : Int)] w fun e w' => e = .returned (.tuple #[.agg #[.bool false, .slice none 0 0], .int .i64 14]) ∧ Below w.heap.size w w' := by
  have a1 := andnot_sign F R hF hR
  have hC : (9218868437227405312 : Int) ≤ (R : Int) := by omega
  clear hR2 hR hF
  obtain ⟨c0, c1, f0, f1⟩ := two_cells (heap_alloc_new w (.cells #[.bool false, .slice none 0 0] 24))
  go_enter Tryd.func63, Tryd.ntmps63
  go_wp2
  refine bodyPost_ret (v := .tuple #[.agg #[.bool false, .slice none 0 0], .int .i64 14]) (by simp [results, Tryd.results63, go_sem, c0, c1]) rfl ⟨rfl, ?_⟩
  exact (Below.refl w.heap.size w).alloc (Nat.le_refl _) _

set_option maxRecDepth 100000 in
set_option maxHeartbeats 4000000 in
/-- OfFloat of a float below one. -/
theorem ofFloat_low (F R q : Nat) (w : World) (hF : F < 18446744073709551616) (hR : F % 9223372036854775808 = R) (hq : R / 4503599627370496 = q) (hR2 : q < 1023) :
    Calls Tryd.prog 63 #[.int .u64 (F : Int)] w fun e w' => e = .returned (.tuple #[.agg #[.bool false, .slice none 0 0], .int .i64 0]) ∧ Below w.heap.size w w' := by
  have a1 := andnot_sign F R hF hR
  have hC : ¬ (9218868437227405312 : Int) ≤ (R : Int) := by omega
  have hq2 : (R : Int) / 4503599627370496 = (q : Int) := by omega
  clear hR hF hq
  obtain ⟨c0, c1, f0, f1⟩ := two_cells (heap_alloc_new w (.cells #[.bool false, .slice none 0 0] 24))
  go_enter Tryd.func63, Tryd.ntmps63
  go_wp2
  refine bodyPost_ret (v := .tuple #[.agg #[.bool false, .slice none 0 0], .int .i64 0]) (by simp [results, Tryd.results63, go_sem, c0, c1]) rfl ⟨rfl, ?_⟩
  exact (Below.refl w.heap.size w).alloc (Nat.le_refl _) _
end Go.Proofs.YtldafoojkimdeaaDoor
