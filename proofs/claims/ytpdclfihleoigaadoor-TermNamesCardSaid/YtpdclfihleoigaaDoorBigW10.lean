/- Walks: Cmp, long. -/
import Derived.Test.YtpdclfihleoigaaDoorBigW8
import Derived.Deep.RegionHeld3
namespace Go.Proofs.YtpdclfihleoigaaDoor
open Go.RowKit Lm

theorem cmp_lt {na nb : Bool} {A B : List Nat} (h : (num na A).sign < (num nb B).sign) : (num na A - num nb B).sign = -1 := by
  apply Int.sign_eq_neg_one_of_neg
  have h1 := Int.sign_trichotomy (num na A)
  rcases Int.lt_trichotomy (num na A) 0 with h2 | h2 | h2 <;> rcases Int.lt_trichotomy (num nb B) 0 with h3 | h3 | h3 <;>
    simp only [Int.sign_eq_neg_one_of_neg, Int.sign_eq_one_of_pos, Int.sign_zero, h2, h3] at h <;> omega
theorem cmp_gt {na nb : Bool} {A B : List Nat} (h : (num nb B).sign < (num na A).sign) : (num na A - num nb B).sign = 1 := by
  have := cmp_lt h
  have e : num na A - num nb B = -(num nb B - num na A) := by omega
  rw [e, Int.sign_neg, this]; rfl
theorem cmp_eq {na nb : Bool} {A B : List Nat} (h : (num na A).sign = (num nb B).sign) : (num na A - num nb B).sign = (num na A).sign * cmp (val A) (val B) := by
  have hc : cmp (val A) (val B) = ((val A : Int) - (val B : Int)).sign := by
    unfold cmp
    split
    · rw [Int.sign_eq_neg_one_of_neg (by omega)]
    · split
      · rw [Int.sign_eq_one_of_pos (by omega)]
      · rw [show (val A : Int) - (val B : Int) = 0 by omega]; rfl
  rw [hc]
  unfold num at *
  by_cases ha : val A = 0
  · by_cases hb : val B = 0
    · rw [ha, hb]; cases na <;> cases nb <;> simp
    · rw [ha] at h ⊢
      exfalso
      have hp : ((val B : Nat) : Int).sign = 1 := Int.sign_eq_one_of_pos (by omega)
      cases na <;> cases nb <;> simp [hp] at h
  · by_cases hb : val B = 0
    · rw [hb] at h ⊢
      exfalso
      have hp : ((val A : Nat) : Int).sign = 1 := Int.sign_eq_one_of_pos (by omega)
      cases na <;> cases nb <;> simp [hp] at h
    · have hp : ((val A : Nat) : Int).sign = 1 := Int.sign_eq_one_of_pos (by omega)
      have hq : ((val B : Nat) : Int).sign = 1 := Int.sign_eq_one_of_pos (by omega)
      cases na <;> cases nb <;> simp only [Bool.false_eq_true, if_false, if_true, Int.sign_neg, hp, hq] at h ⊢
      · omega
      · omega
      · omega
      · rw [show -(val A : Int) - -(val B : Int) = -((val A : Int) - (val B : Int)) by omega, Int.sign_neg]; omega

theorem sign_num (n : Bool) (A : List Nat) : (num n A).sign = -1 ∨ (num n A).sign = 0 ∨ (num n A).sign = 1 := by
  rcases Int.lt_trichotomy (num n A) 0 with h | h | h
  · exact .inl (Int.sign_eq_neg_one_of_neg h)
  · rw [h]; exact .inr (.inl rfl)
  · exact .inr (.inr (Int.sign_eq_one_of_pos h))
theorem wrap_sign (s : Int) (a b : Nat) (h : s = -1 ∨ s = 0 ∨ s = 1) : wrap64 (s * cmp a b) = s * cmp a b := by
  have hc : cmp a b = -1 ∨ cmp a b = 0 ∨ cmp a b = 1 := by
    unfold cmp; split
    · exact .inl rfl
    · split
      · exact .inr (.inr rfl)
      · exact .inr (.inl rfl)
  rcases h with rfl | rfl | rfl <;> rcases hc with h | h | h <;> rw [h] <;> exact IntWalk.wrap64_in _ (by decide)

theorem trim_q (ao : Option Addr) (len cap : Nat) (A : List Nat) (w : World) (h : Rd w ao len cap A) :
    Calls Tryd.prog 86 #[.slice ao len cap] w fun e w' => e = .returned (.slice ao (tl A).length cap) ∧ w' = w :=
  (trim_any ao len cap A w h).mono fun _ _ h => ⟨h.1, h.2.symm⟩

end Go.Proofs.YtpdclfihleoigaaDoor
