/- Floats by their bits: the program's areBits and the document's floats. No condition but those that each theorem names. Walks of the document's answer: count, Nodes, one, all, Check, Checks, of any trees. No condition but those that each theorem names. -/
import Derived.Laws.Externs
import Derived.Test.YtiaddfedaikaiaaGreatDoorT14m
import Derived.Test.YtiaddfedaikaiaaGreatDoorT27m
namespace Go.Proofs.YtiaddfedaikaiaaGreatDoor
open Go.RowKit

/-- Are bits those of a finite number that is not -0? -/
def bitsOk (n : Int) : Bool := decide (n / 4503599627370496 % 2048 ≠ 2047) && decide (n ≠ 9223372036854775808)
theorem vec_nat64 (a : Nat) (ha : a < 18446744073709551616) : (BitVec.ofInt 64 (a : Int)).toNat = a := by
  rw [BitVec.ofInt_natCast, BitVec.toNat_ofNat]; exact Nat.mod_eq_of_lt (by omega)
theorem andnot_sign (F : Nat) (hF : F < 18446744073709551616) : bits .andNot .u64 (F : Int) 9223372036854775808 = ((F % 9223372036854775808 : Nat) : Int) := by
  show IntKind.u64.wrap ((BitVec.ofInt 64 (F : Int) &&& ~~~ BitVec.ofInt 64 9223372036854775808).toNat : Int) = _
  rw [BitVec.toNat_and, vec_nat64 F hF, show (~~~ BitVec.ofInt 64 9223372036854775808).toNat = 2 ^ 63 - 1 by decide, Nat.and_two_pow_sub_one_eq_mod, IntKind.wrap_u64]
  omega
/-! ### what a float's bits stand for -/
theorem read_fin (n : Nat) (h : n % 9223372036854775808 < 9218868437227405312) : ∃ m p, FloatKind.f64.format.read n = .number (n / 9223372036854775808 % 2 == 1) m p ∧ m < 9007199254740992 ∧ p ≤ 971 := by
  have e : FloatKind.f64.format.read n = (if n % 9223372036854775808 < 4503599627370496 then .number (n / 9223372036854775808 % 2 == 1) (n % 9223372036854775808) (-1074)
      else if n % 9223372036854775808 < 9218868437227405312 then .number (n / 9223372036854775808 % 2 == 1) (4503599627370496 + n % 9223372036854775808 % 4503599627370496) (-1074 + (n % 9223372036854775808 / 4503599627370496 - 1 : Nat))
      else if n % 9223372036854775808 = 9218868437227405312 then .infinity (n / 9223372036854775808 % 2 == 1) else .nan (n / 9223372036854775808 % 2 == 1) (n % 9223372036854775808 - 9218868437227405312)) := rfl
  rw [e]
  by_cases h1 : n % 9223372036854775808 < 4503599627370496
  · rw [if_pos h1]; exact ⟨_, _, rfl, by omega, by omega⟩
  · rw [if_neg h1, if_pos h]; exact ⟨_, _, rfl, by omega, by omega⟩
theorem read_not (n : Nat) (h : ¬ n % 9223372036854775808 < 9218868437227405312) : (n % 9223372036854775808 = 9218868437227405312 ∧ FloatKind.f64.format.read n = .infinity (n / 9223372036854775808 % 2 == 1)) ∨ (n % 9223372036854775808 ≠ 9218868437227405312 ∧ ∃ k, FloatKind.f64.format.read n = .nan (n / 9223372036854775808 % 2 == 1) k) := by
  have e : FloatKind.f64.format.read n = (if n % 9223372036854775808 < 4503599627370496 then .number (n / 9223372036854775808 % 2 == 1) (n % 9223372036854775808) (-1074)
      else if n % 9223372036854775808 < 9218868437227405312 then .number (n / 9223372036854775808 % 2 == 1) (4503599627370496 + n % 9223372036854775808 % 4503599627370496) (-1074 + (n % 9223372036854775808 / 4503599627370496 - 1 : Nat))
      else if n % 9223372036854775808 = 9218868437227405312 then .infinity (n / 9223372036854775808 % 2 == 1) else .nan (n / 9223372036854775808 % 2 == 1) (n % 9223372036854775808 - 9218868437227405312)) := rfl
  rw [e, if_neg (by omega), if_neg h]
  by_cases h1 : n % 9223372036854775808 = 9218868437227405312
  · rw [if_pos h1]; exact .inl ⟨h1, rfl⟩
  · rw [if_neg h1]; exact .inr ⟨h1, _, rfl⟩
theorem read_max : FloatKind.f64.format.read 9218868437227405311 = .number false 9007199254740991 971 := by kernel_rfl
theorem cmp_same (x : Int) : compare x x = .eq := by simp [compare, compareOfLessAndEq]
theorem cmp_le {x y : Int} (h : x ≤ y) : compare x y ≠ .gt := by
  simp only [compare, compareOfLessAndEq]
  split
  · simp
  · split
    · simp
    · omega
/-- Is a float no number? -/
def isNaNb (n : Nat) : Bool := FloatKind.f64.format.order n n != some .eq
def isInfb (n : Nat) : Bool := FloatKind.f64.format.order (n % 9223372036854775808) 9218868437227405311 == some .gt
theorem order_def (a b : Nat) : FloatKind.f64.format.order a b = (FloatKind.f64.format.read a).order (FloatKind.f64.format.read b) := rfl
theorem fin_facts (n : Nat) (h : n % 9223372036854775808 < 9218868437227405312) : isInfb n = false ∧ isNaNb n = false := by
  constructor
  · unfold isInfb
    obtain ⟨m, p, e, hm, hp⟩ := read_fin (n % 9223372036854775808) (by omega)
    rw [order_def, e, read_max, show (n % 9223372036854775808 / 9223372036854775808 % 2 == 1) = false by rw [show n % 9223372036854775808 / 9223372036854775808 = 0 by omega]; rfl]
    show (some (compare (Ieee.signed false m (p - min p 971).toNat) (Ieee.signed false 9007199254740991 (971 - min p 971).toNat)) == some .gt) = false
    rw [show min p 971 = p by omega, show (p - p).toNat = 0 by omega]
    have h2 : Ieee.signed false m 0 ≤ Ieee.signed false 9007199254740991 (971 - p).toNat := by
      show ((m <<< 0 : Nat) : Int) ≤ ((9007199254740991 <<< (971 - p).toNat : Nat) : Int)
      rw [Nat.shiftLeft_eq, Nat.shiftLeft_eq]
      have h3 : 1 ≤ 2 ^ (971 - p).toNat := Nat.one_le_two_pow
      have h4 : 9007199254740991 * 1 ≤ 9007199254740991 * 2 ^ (971 - p).toNat := Nat.mul_le_mul_left _ h3
      have h5 : m * 2 ^ 0 ≤ 9007199254740991 * 2 ^ (971 - p).toNat := Nat.le_trans (by omega) h4
      exact Int.ofNat_le.2 h5
    have h6 := cmp_le h2
    generalize compare (Ieee.signed false m 0) (Ieee.signed false 9007199254740991 (971 - p).toNat) = c at *
    cases c <;> simp_all
  · unfold isNaNb
    obtain ⟨m, p, e, hm, hp⟩ := read_fin n h
    rw [order_def, e]
    generalize (n / 9223372036854775808 % 2 == 1) = s
    show (some (compare (Ieee.signed s m (p - min p p).toNat) (Ieee.signed s m (p - min p p).toNat)) != some .eq) = false
    rw [cmp_same]; rfl
theorem bad_facts (n : Nat) (h : ¬ n % 9223372036854775808 < 9218868437227405312) : isInfb n = true ∨ (isInfb n = false ∧ isNaNb n = true) := by
  unfold isInfb isNaNb
  have hr : ∀ k, k / 9223372036854775808 = 0 → (k / 9223372036854775808 % 2 == 1) = false := fun k hk => by rw [hk]; rfl
  rcases read_not (n % 9223372036854775808) (by omega) with ⟨_, e⟩ | ⟨hne, k, e⟩
  · left
    rw [order_def, e, read_max, hr _ (by omega)]
    rfl
  · right
    refine ⟨by rw [order_def, e]; rfl, ?_⟩
    rcases read_not n h with ⟨h1, _⟩ | ⟨_, j, e2⟩
    · exact absurd h1 (by omega)
    · rw [order_def, e2]; rfl
theorem bits_facts (n : Nat) (_h1 : n < 18446744073709551616) : bitsOk n = (!isInfb n && !isNaNb n && ((n : Int) != 9223372036854775808)) := by
  have hb : bitsOk n = (((n : Int) / 4503599627370496 % 2048 != 2047) && ((n : Int) != 9223372036854775808)) := by
    unfold bitsOk
    rw [Bool.eq_iff_iff]
    simp
  rw [hb]
  congr 1
  by_cases h : n % 9223372036854775808 < 9218868437227405312
  · obtain ⟨h2, h3⟩ := fin_facts n h
    rw [h2, h3]
    have : (n : Int) / 4503599627370496 % 2048 ≠ 2047 := by omega
    simp [this]
  · have h4 : (n : Int) / 4503599627370496 % 2048 = 2047 := by omega
    rw [h4]
    rcases bad_facts n h with h2 | ⟨h2, h3⟩
    · rw [h2]; rfl
    · rw [h2, h3]; rfl
theorem run_frombits (n : Nat) (W : World) : (callFunc 177 #[.int .u64 (n : Int)]).run Tryz.prog W = .ok (.value (.float .f64 n)) W := by
  rw [run_callFunc_extern (e := Extern.MathFloatBits.float64frombits) Tryz.func177 (by kernel_rfl) (by kernel_rfl) (by kernel_rfl) (by kernel_rfl)]
  rfl
theorem run_bits64 (n : Nat) (W : World) : (callFunc 200 #[.float .f64 n]).run Tryz.prog W = .ok (.value (.int .u64 (n : Int))) W := by
  rw [run_callFunc_extern (e := Extern.MathFloatBits.float64bits) Tryz.func200 (by kernel_rfl) (by kernel_rfl) (by kernel_rfl) (by kernel_rfl)]
  rfl
set_option maxRecDepth 100000 in
theorem abs_any (n : Nat) (w : World) (h1 : n < 18446744073709551616) : Calls Tryz.prog 188 #[.float .f64 n] w fun e w' => e = .returned (.float .f64 (n % 9223372036854775808)) ∧ w = w' := by
  have r1 := run_bits64 n
  have r2 := run_frombits (n % 9223372036854775808)
  have e1 := andnot_sign n h1
  have ec : ((n % 9223372036854775808 : Nat) : Int) = (n : Int) % 9223372036854775808 := by omega
  rw [ec] at r2 e1
  clear ec
  go_enter Tryz.func188, Tryz.ntmps188
  go_wp2
  go_ret
  exact ⟨rfl, rfl⟩
set_option maxRecDepth 100000 in
theorem isInf_any (n : Nat) (w : World) (h1 : n < 18446744073709551616) : Calls Tryz.prog 178 #[.float .f64 n, .int .i64 0] w fun e w' => e = .returned (.bool (isInfb n)) ∧ w = w' := by
  have C := hid (fun W => abs_any n W h1)
  go_enter Tryz.func178, Tryz.ntmps178
  go_wp2_with (go_at_call 188; (with_reducible refine (C.out _).mono ?_); rintro e w2 ⟨rfl, rfl⟩)
  go_ret
  exact ⟨rfl, rfl⟩
set_option maxRecDepth 100000 in
theorem isNaNf_any (n : Nat) (w : World) : Calls Tryz.prog 179 #[.float .f64 n] w fun e w' => e = .returned (.bool (isNaNb n)) ∧ w = w' := by
  go_enter Tryz.func179, Tryz.ntmps179
  go_wp2
  go_ret
  exact ⟨rfl, rfl⟩
set_option maxRecDepth 100000 in
theorem areBits_any (n : Nat) (w : World) (h1 : n < 18446744073709551616) : Calls Tryz.prog 166 #[.int .u64 n] w fun e w' => e = .returned (.bool (bitsOk n)) ∧ w = w' := by
  have r2 := run_frombits n
  have C1 := hid (fun W => isInf_any n W h1)
  have C2 := hid (fun W => isNaNf_any n W)
  rw [bits_facts n h1]
  clear h1
  generalize isInfb n = bi at *
  generalize isNaNb n = bn at *
  cases bi <;> cases bn
  all_goals
    go_enter Tryz.func166, Tryz.ntmps166
    go_wp2_with (first
      | (go_at_call 178; (with_reducible refine (C1.out _).mono ?_); rintro e w2 ⟨rfl, rfl⟩)
      | (go_at_call 179; (with_reducible refine (C2.out _).mono ?_); rintro e w2 ⟨rfl, rfl⟩))
    go_ret
    exact ⟨by simp, rfl⟩
end Go.Proofs.YtiaddfedaikaiaaGreatDoor

namespace Go.Proofs.YtiaddfedaikaiaaGreatDoor
open Go.RowKit

/-- Contracts of what the document asks of names, texts of integers and bits, for the nodes of a kind, from a world on. -/
structure OracleR (vn vi : ByteArray → Bool) (vb : Int → Bool) (D : Tm → Prop) (w : World) : Prop where
  name : ∀ W, Below w.heap.size w W → ∀ t, D t → Calls Tryz.prog 147 #[.string t.name] W fun e w' => e = .returned (.bool (vn t.name)) ∧ W = w'
  num : ∀ W, Below w.heap.size w W → ∀ t, D t → t.kind = 3 → Calls Tryz.prog 148 #[.string t.num] W fun e w' => e = .returned (.bool (vi t.num)) ∧ Below W.heap.size W w'
  bits : ∀ W, Below w.heap.size w W → ∀ t, D t → t.kind = 4 → Calls Tryz.prog 149 #[.int .u64 t.bits] W fun e w' => e = .returned (.bool (vb t.bits)) ∧ W = w'
theorem OracleR.keep {vn vi : ByteArray → Bool} {vb : Int → Bool} {D : Tm → Prop} {w w1 : World} (h : OracleR vn vi vb D w) (hb : Below w.heap.size w w1) : OracleR vn vi vb D w1 :=
  ⟨fun W hW => h.name W (hb.trans (hW.mono hb.size)), fun W hW => h.num W (hb.trans (hW.mono hb.size)), fun W hW => h.bits W (hb.trans (hW.mono hb.size))⟩
end Go.Proofs.YtiaddfedaikaiaaGreatDoor
