/- The calls of the law BigintShifts where nothing is too long, and what their answers say. -/
import Derived.Test.YtldafoojkimdeaaDoorW24
import Derived.Test.YtldafoojkimdeaaDoorW52
import Derived.Test.YtldafoojkimdeaaDoorW57
import Derived.Test.YtldafoojkimdeaaDoorW59
namespace Go.Proofs.YtldafoojkimdeaaDoor
open Go.RowKit Lm

theorem pow_ne (r : Nat) : (2 : Int) ^ r ≠ 0 := by
  have h : ((2 ^ r : Nat) : Int) ≠ 0 := by have := Nat.two_pow_pos r; omega
  simpa using h
theorem shift_up_ok {na : Bool} {aa : Option Addr} {la ca : Nat} {A : List Nat} {va : Int} (m : Nat) (w : World) (hA : Rd w aa la ca A) (ea : num na A = va) (sa : Sm va) (sr : Sm (va * (2 : Int) ^ m)) (hm : m ≤ 4096) :
    Calls Tryd.prog 53 #[.agg #[.bool na, .slice aa la ca], .int .i64 (m : Int)] w fun e w' => ∃ n' ao' len' C, e = .returned (.tuple #[.agg #[.bool n', .slice ao' len' len'], .int .i64 0]) ∧ Rd w' ao' len' len' C ∧ num n' C = va * (2 : Int) ^ m ∧ Below w.heap.size w w' := by
  refine (shift_up_any na aa la ca A m w hA (sa.short ea) (by omega)).mono ?_
  rintro e w' ⟨n', ao', len', c, rfl, hf, hb⟩
  rw [ea] at hf
  obtain ⟨rfl, C, h1, h2⟩ := hf.read sr
  exact ⟨n', ao', len', C, rfl, h1, h2, hb⟩
theorem shift_three_ok {na : Bool} {aa : Option Addr} {la ca : Nat} {A : List Nat} {va : Int} (w : World) (hA : Rd w aa la ca A) (ea : num na A = va) (sa : Sm va) (sr : Sm (va * 8)) :
    Calls Tryd.prog 53 #[.agg #[.bool na, .slice aa la ca], .int .i64 3] w fun e w' => ∃ n' ao' len' C, e = .returned (.tuple #[.agg #[.bool n', .slice ao' len' len'], .int .i64 0]) ∧ Rd w' ao' len' len' C ∧ num n' C = va * 8 ∧ Below w.heap.size w w' :=
  shift_up_ok 3 w hA ea sa sr (by decide)
theorem shift_down_ok {na : Bool} {aa : Option Addr} {la ca : Nat} {A : List Nat} {va : Int} (m : Nat) (w : World) (hA : Rd w aa la ca A) (ea : num na A = va) (sa : Sm va) (sr : Sm (va / (2 : Int) ^ m)) (hm : m ≤ 4096) :
    Calls Tryd.prog 53 #[.agg #[.bool na, .slice aa la ca], .int .i64 (-(m : Int))] w fun e w' => ∃ n' ao' len' C, e = .returned (.tuple #[.agg #[.bool n', .slice ao' len' len'], .int .i64 0]) ∧ Rd w' ao' len' len' C ∧ num n' C = va / (2 : Int) ^ m ∧ Below w.heap.size w w' := by
  refine (shift_down_any na aa la ca A m w hA (sa.short ea) hm).mono ?_
  rintro e w' ⟨n', ao', len', c, rfl, hf, hb⟩
  rw [ea] at hf
  obtain ⟨rfl, C, h1, h2⟩ := hf.read sr
  exact ⟨n', ao', len', C, rfl, h1, h2, hb⟩
theorem shift_back_ok {na : Bool} {aa : Option Addr} {la ca : Nat} {A : List Nat} {va : Int} (m : Nat) (w : World) (hA : Rd w aa la ca A) (ea : num na A = va * (2 : Int) ^ m) (sa : Sm (va * (2 : Int) ^ m)) (sr : Sm va) (hm : m ≤ 4096) :
    Calls Tryd.prog 53 #[.agg #[.bool na, .slice aa la ca], .int .i64 (-(m : Int))] w fun e w' => ∃ n' ao' len' C, e = .returned (.tuple #[.agg #[.bool n', .slice ao' len' len'], .int .i64 0]) ∧ Rd w' ao' len' len' C ∧ num n' C = va ∧ Below w.heap.size w w' := by
  have h := shift_down_ok m w hA ea sa (by rw [Int.mul_ediv_cancel _ (pow_ne m)]; exact sr) hm
  rw [Int.mul_ediv_cancel _ (pow_ne m)] at h
  exact h
theorem pow_small {na : Bool} {aa : Option Addr} {la ca : Nat} {A : List Nat} {va : Int} (m : Nat) (w : World) (hA : Rd w aa la ca A) (ea : num na A = va) (sa : Sm va) (sr : Sm (va ^ m)) (hm : m ≤ 4096) :
    Calls Tryd.prog 52 #[.agg #[.bool na, .slice aa la ca], .int .i64 (m : Int)] w fun e w' => ∃ n' ao' len' C, e = .returned (.tuple #[.agg #[.bool n', .slice ao' len' len'], .int .i64 0]) ∧ Rd w' ao' len' len' C ∧ num n' C = va ^ m ∧ Below w.heap.size w w' := by
  refine (pow_good na aa la ca A m w hA (by omega) (sa.short ea)).mono ?_
  rintro e w' ⟨n', ao', len', c, rfl, hf, hb⟩
  rw [ea] at hf
  obtain ⟨rfl, C, h1, h2⟩ := hf.read sr
  exact ⟨n', ao', len', C, rfl, h1, h2, hb⟩
/-- The greatest common divisor, as an integer. -/
def gcdi (a b : Int) : Int := ((Nat.gcd a.natAbs b.natAbs : Nat) : Int)
theorem gcd_ok {na : Bool} {aa : Option Addr} {la ca : Nat} {A : List Nat} {nb : Bool} {ab : Option Addr} {lb cb : Nat} {B : List Nat} {va vb : Int} (w : World) (hA : Rd w aa la ca A) (hB : Rd w ab lb cb B) (ea : num na A = va) (eb : num nb B = vb) (sa : Sm va) (sb : Sm vb) (sr : Sm (gcdi va vb)) :
    Calls Tryd.prog 51 #[.agg #[.bool na, .slice aa la ca], .agg #[.bool nb, .slice ab lb cb]] w fun e w' => ∃ n' ao' len' C, e = .returned (.tuple #[.agg #[.bool n', .slice ao' len' len'], .int .i64 0]) ∧ Rd w' ao' len' len' C ∧ num n' C = gcdi va vb ∧ Below w.heap.size w w' := by
  refine (gcd_good na aa la ca A nb ab lb cb B w hA hB (by rw [sa.short ea, sb.short eb]; rfl)).mono ?_
  rintro e w' ⟨n', ao', len', c, rfl, hf, hb⟩
  rw [val_of_num ea, val_of_num eb] at hf
  obtain ⟨rfl, C, h1, h2⟩ := hf.read sr
  exact ⟨n', ao', len', C, rfl, h1, h2, hb⟩

theorem lt_two_of (r k : Nat) (hr : r < k) : Lt k ((2 : Int) ^ r) := by
  unfold Lt
  have e : ((2 : Int) ^ r).natAbs = 2 ^ r := by rw [Int.natAbs_pow]; rfl
  rw [e]
  exact Nat.pow_lt_pow_right (by decide) hr
theorem lt_two (r : Nat) (hr : r < 900) : Lt 900 ((2 : Int) ^ r) := lt_two_of r 900 hr
theorem lt_up {k : Nat} {v : Int} (r : Nat) (hr : r < 900) (h : Lt k v) : Lt (k + 900) (v * (2 : Int) ^ r) := h.mul (lt_two r hr)
theorem lt_eight {k : Nat} {v : Int} (h : Lt k v) : Lt (k + 4) (v * 8) := h.mul (show Lt 4 8 by unfold Lt; decide)
theorem lt_floor {k : Nat} {v : Int} (r : Nat) (h : Lt k v) : Lt k (v / (2 : Int) ^ r) := by
  unfold Lt at *
  exact Nat.lt_of_le_of_lt (Int.natAbs_ediv_le_natAbs _ _) h
theorem lt_gcd {k : Nat} {a b : Int} (ha : Lt k a) (hb : Lt k b) : Lt k (gcdi a b) := by
  unfold Lt gcdi at *
  rw [Int.natAbs_natCast]
  rcases Nat.eq_zero_or_pos a.natAbs with h | h
  · rw [h, Nat.gcd_zero_left]; exact hb
  · exact Nat.lt_of_le_of_lt (Nat.gcd_le_left _ h) ha
theorem floors_pow {a d m : Int} {r : Nat} (h : Floors a ((2 : Int) ^ r) d m) : d = a / (2 : Int) ^ r := by
  obtain ⟨h1, h2, _, h4⟩ := h
  have hp : (0 : Int) < (2 : Int) ^ r := by
    have h : (0 : Int) < ((2 ^ r : Nat) : Int) := by have := Nat.two_pow_pos r; omega
    simpa using h
  have hm := h4 (by omega)
  rw [h1, Int.add_comm, Int.add_mul_ediv_right _ _ (pow_ne r), Int.ediv_eq_zero_of_lt hm (by omega)]; omega
theorem gcd_zero_both {a b : Int} (h : gcdi a b = 0) : a = 0 ∧ b = 0 := by
  unfold gcdi at h
  have h2 : Nat.gcd a.natAbs b.natAbs = 0 := by omega
  rw [Nat.gcd_eq_zero_iff] at h2
  omega
theorem gcd_rem {a c q r : Int} (h : TruncDiv a c q r) (hd : c.natAbs ∣ a.natAbs) : r = 0 := by
  obtain ⟨h1, h2, _, _⟩ := h
  have h3 : c ∣ a := Int.natAbs_dvd_natAbs.1 hd
  have h4 : c ∣ r := by
    have : r = a - q * c := by omega
    rw [this]
    exact Int.dvd_sub h3 (Int.dvd_mul_left q c)
  have h5 := Int.natAbs_dvd_natAbs.2 h4
  rcases Nat.eq_zero_or_pos r.natAbs with h | h
  · omega
  · have := Nat.le_of_dvd h h5; omega
theorem gcd_left (a b : Int) : (gcdi a b).natAbs ∣ a.natAbs := by unfold gcdi; rw [Int.natAbs_natCast]; exact Nat.gcd_dvd_left _ _
theorem gcd_right (a b : Int) : (gcdi a b).natAbs ∣ b.natAbs := by unfold gcdi; rw [Int.natAbs_natCast]; exact Nat.gcd_dvd_right _ _
theorem gcd_eight (a b : Int) : gcdi (a * 8) (b * 8) = gcdi a b * 8 := by
  unfold gcdi
  rw [Int.natAbs_mul, Int.natAbs_mul, show (8 : Int).natAbs = 8 from rfl, Nat.gcd_mul_right]; simp
theorem gcd_sign {a b : Int} (h : gcdi a b ≠ 0) : (gcdi a b).sign = 1 := Int.sign_eq_one_of_pos (by unfold gcdi at *; omega)
end Go.Proofs.YtldafoojkimdeaaDoor
