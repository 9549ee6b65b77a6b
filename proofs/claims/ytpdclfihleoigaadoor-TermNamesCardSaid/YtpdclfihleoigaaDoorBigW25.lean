/- Walks: groupOf, digitOf, areDigits. -/
import Derived.Test.YtpdclfihleoigaaDoorBigW3
namespace Go.Proofs.YtpdclfihleoigaaDoor
open Go.RowKit Lm

theorem pow_width {r k : Nat} (hr : 2 ≤ r) (h : r ^ k ≤ 4294967295) : k ≤ 31 := by
  apply Nat.le_of_lt_succ
  apply Nat.lt_of_not_le
  intro hk
  have h1 : 2 ^ 32 ≤ 2 ^ k := Nat.pow_le_pow_right (by decide) hk
  have h2 : 2 ^ k ≤ r ^ k := Nat.pow_le_pow_left hr k
  omega

set_option maxRecDepth 100000 in
set_option maxHeartbeats 1000000 in
theorem groupOf_any (r : Nat) (w : World) (h2 : 2 ≤ r) (h36 : r ≤ 36) :
    Calls Tryd.prog 88 #[.int .i64 (r : Int)] w fun e w' => ∃ k p : Nat, e = .returned (.tuple #[.int .i64 (k : Int), .int .u32 (p : Int)]) ∧ p = r ^ k ∧ 1 ≤ k ∧ k ≤ 31 ∧ 1 ≤ p ∧ p ≤ 4294967295 ∧ w = w' := by
  go_enter Tryd.func88, Tryd.ntmps88
  go_wp2
  go_loop [2, 5] (fun a b => ∃ k p : Nat, a = .int .i64 (k : Int) ∧ b = .int .u64 (p : Int) ∧ Hid (p = r ^ k) ∧ 1 ≤ k ∧ k ≤ 31 ∧ 1 ≤ p ∧ p ≤ 4294967295) (fun _ b => (4294967296 - intOf b).toNat)
  case atStart => exact ⟨1, r, rfl, rfl, hid (by rw [Nat.pow_one]), by omega, by omega, by omega, by omega⟩
  case round =>
    obtain ⟨k, p, rfl, rfl, hp, hk1, hk, hp1, hpb⟩ := hrel
    have hq : p * r ≤ 4294967295 * 36 := Nat.mul_le_mul hpb h36
    have hq2 : p * 2 ≤ p * r := Nat.mul_le_mul_left _ h2
    have hqi : (p : Int) * (r : Int) ≤ 154618822620 := by have := Int.ofNat_le.2 hq; simpa using this
    have hq0 : 0 ≤ (p : Int) * (r : Int) := Int.mul_nonneg (by omega) (by omega)
    have hcast : (p : Int) * (r : Int) = ((p * r : Nat) : Int) := by simp [Int.natCast_mul]
    have HC := hid hcast
    clear hcast hq
    by_cases hle : p * r ≤ 4294967295
    · have hle' : (p : Int) * (r : Int) ≤ 4294967295 := by rw [HC.out]; omega
      have hpw : p * r = r ^ (k + 1) := by rw [hp.out, Nat.pow_succ]
      have hk2 := pow_width h2 (by rw [← hpw]; exact hle)
      have HPW := hid hpw
      clear hpw
      go_wp2
      go_round
      case rel => exact ⟨k + 1, p * r, by go_num, congrArg (Value.int .u64) HC.out, HPW, by omega, hk2, by omega, hle⟩
      case measure => simp only [intOf]; rw [HC.out]; omega
    · have hle' : ¬ (p : Int) * (r : Int) ≤ 4294967295 := by rw [HC.out]; omega
      go_wp2
      go_ret2
      exact ⟨k, p, rfl, hp.out, hk1, hk, hp1, hpb, rfl⟩

/-- What a digit counts; 36: it is none. -/
def dv (c : Nat) : Nat := if 48 ≤ c ∧ c ≤ 57 then c - 48 else if 97 ≤ c ∧ c ≤ 122 then c - 87 else if 65 ≤ c ∧ c ≤ 90 then c - 55 else 36
theorem dv_le (c : Nat) : dv c ≤ 36 := by unfold dv; split <;> (try split) <;> (try split) <;> omega

set_option maxRecDepth 100000 in
set_option maxHeartbeats 1000000 in
theorem digitOf_any (c : Nat) (w : World) (h : c < 256) :
    Calls Tryd.prog 80 #[.int .u8 (c : Int)] w fun e w' => e = .returned (.int .i64 (dv c : Int)) ∧ w = w' := by
  rcases (show (48 ≤ c ∧ c ≤ 57) ∨ (97 ≤ c ∧ c ≤ 122) ∨ (65 ≤ c ∧ c ≤ 90) ∨ c < 48 ∨ (57 < c ∧ c < 65) ∨ (90 < c ∧ c < 97) ∨ 122 < c by omega) with ⟨h1, h2⟩ | ⟨h1, h2⟩ | ⟨h1, h2⟩ | h1 | ⟨h1, h2⟩ | ⟨h1, h2⟩ | h1
  all_goals
    have e : ∃ z, dv c = z := ⟨_, rfl⟩
    obtain ⟨z, hz⟩ := e
    have HZ := hid hz
    rw [hz]
    clear hz
    go_enter Tryd.func80, Tryd.ntmps80
    go_wp2
    go_ret
    refine ⟨?_, rfl⟩
    have hz := HZ.out
    unfold dv at hz
    repeat' split at hz
    all_goals first | (exfalso; omega) | exact congrArg (fun z => Ending.returned (.int .i64 z)) (by omega)

/-- A text of digits of a radix, one at least. -/
def allD (s : ByteArray) (r : Nat) : Bool := decide (0 < s.size ∧ ∀ j (h : j < s.size), dv s[j].toNat < r)

set_option maxRecDepth 100000 in
set_option maxHeartbeats 1000000 in
theorem areDigits_any (s : ByteArray) (r : Nat) (w : World) (hs : s.size ≤ maxLen) (_hr : r ≤ 36) :
    Calls Tryd.prog 70 #[.string s, .int .i64 (r : Int)] w fun e w' => e = .returned (.bool (allD s r)) ∧ w = w' := by
  unfold maxLen at hs
  go_enter Tryd.func70, Tryd.ntmps70
  go_wp2
  go_loop [8] (fun i => ∃ k : Nat, k ≤ s.size ∧ i = .int .i64 (k : Int) ∧ Hid (∀ j (h : j < s.size), j < k → dv s[j].toNat < r)) (fun i => s.size - (intOf i).toNat)
  case atStart => exact ⟨0, by omega, rfl, hid (fun j _ h => by omega)⟩
  case round =>
    obtain ⟨k, hk, rfl, hall⟩ := hrel
    by_cases hlt : k < s.size
    · have hc : s[k].toNat < 256 := s[k].toNat_lt
      have hdl := dv_le s[k].toNat
      by_cases hd : dv s[k].toNat < r
      · go_wp2_with (go_at_call 80; refine (digitOf_any _ _ hc).mono ?_; rintro e w2 ⟨rfl, rfl⟩)
        go_round
        case rel =>
          refine ⟨k + 1, by omega, by go_num, hid ?_⟩
          intro j hj hjk
          by_cases e : j = k
          · subst e; exact hd
          · exact hall.out j hj (by omega)
        case measure => simp [intOf]; omega
      · have e : allD s r = false := by
          unfold allD; rw [decide_eq_false_iff_not]; intro h; exact hd (h.2 k hlt)
        have HE := hid e
        clear e
        go_wp2_with (go_at_call 80; refine (digitOf_any _ _ hc).mono ?_; rintro e w2 ⟨rfl, rfl⟩)
        go_ret
        exact ⟨by rw [HE.out]; rfl, rfl⟩
    · have e : allD s r = decide (0 < s.size) := by
        unfold allD; rw [Bool.eq_iff_iff, decide_eq_true_iff, decide_eq_true_iff]
        exact ⟨fun h => h.1, fun h => ⟨h, fun j hj => hall.out j hj (by omega)⟩⟩
      have HE := hid e
      clear e
      go_wp2
      go_ret
      exact ⟨by rw [HE.out]; simp, rfl⟩
end Go.Proofs.YtpdclfihleoigaaDoor
