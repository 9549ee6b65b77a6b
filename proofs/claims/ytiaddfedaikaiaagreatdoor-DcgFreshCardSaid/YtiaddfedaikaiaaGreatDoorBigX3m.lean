/- Texts of digits, plain: noughts ahead, what is too long, where one stops. No condition but those that each theorem names. Walks: Parse and Text where something is wrong. No condition but those that each theorem names. -/
import Derived.Test.YtiaddfedaikaiaaGreatDoorBigImemm
import Derived.Test.YtiaddfedaikaiaaGreatDoorBigW39m
namespace Go.Proofs.YtiaddfedaikaiaaGreatDoor
open Go.RowKit Lm

theorem dval_cons (r : Nat) (c : UInt8) (l : List UInt8) : dval r (c :: l) = dv c.toNat * r ^ l.length + dval r l := by
  have := dval_append r [c] l
  rw [List.singleton_append] at this
  rw [this]; simp [dval]
theorem dv_nought : dv (48 : UInt8).toNat = 0 := by decide
theorem dval_trim (r : Nat) (l : List UInt8) : dval r (Lib.trimLeftB l 48) = dval r l := by
  induction l with
  | nil => rfl
  | cons c l ih =>
    by_cases h : c = 48
    · subst h
      have e : Lib.trimLeftB (48 :: l) 48 = Lib.trimLeftB l 48 := by unfold Lib.trimLeftB; rw [List.dropWhile_cons, if_pos (by decide)]
      rw [e, ih, dval_cons, dv_nought]; simp
    · rw [trim_head h]
theorem trim_mem {l : List UInt8} {c : UInt8} (h : c ∈ Lib.trimLeftB l 48) : c ∈ l := by
  unfold Lib.trimLeftB at h; exact (List.dropWhile_sublist _).subset h
theorem trim_first {l m : List UInt8} {c : UInt8} (h : Lib.trimLeftB l 48 = c :: m) : c ≠ 48 := by
  intro e
  subst e
  unfold Lib.trimLeftB at h
  have h0 : List.dropWhile (fun x : UInt8 => x == 48) l ≠ [] := by rw [h]; simp
  have := List.head_dropWhile_not (fun x : UInt8 => x == 48) h0
  simp [h] at this
theorem dv_zero {c : UInt8} (h : dv c.toNat = 0) : c = 48 := by
  have hc := c.toNat_lt
  have e : c.toNat = 48 := by
    unfold dv at h
    split at h
    · omega
    · split at h
      · omega
      · split at h <;> omega
  exact UInt8.toNat_inj.1 (by rw [e]; decide)
/-- A text of digits that is long, without noughts ahead, is of a number that is. -/
theorem dval_long {r K : Nat} {l : List UInt8} (h2 : 2 ≤ r) (h : K < (Lib.trimLeftB l 48).length) : K < bl (dval r l) := by
  rw [← dval_trim]
  generalize hm : Lib.trimLeftB l 48 = m at h
  cases m with
  | nil => simp at h
  | cons c m =>
    have hc := trim_first hm
    have h1 : 1 ≤ dv c.toNat := by
      rcases Nat.eq_zero_or_pos (dv c.toNat) with h0 | h0
      · exact absurd (dv_zero h0) hc
      · exact h0
    apply Nat.lt_of_not_le
    intro hle
    have h3 := (bl_le _ _).1 hle
    rw [dval_cons] at h3
    have h4 : 2 ^ K ≤ r ^ m.length := by
      refine Nat.le_trans (Nat.pow_le_pow_right (by decide) (show K ≤ m.length by simp at h; omega)) (Nat.pow_le_pow_left h2 _)
    have h5 := Nat.mul_le_mul_right (r ^ m.length) h1
    rw [Nat.one_mul] at h5
    generalize 2 ^ K = p at *
    generalize r ^ m.length = q at *
    generalize dv c.toNat * q = s at *
    omega
theorem dval_far {r : Nat} {l : List UInt8} (h2 : 2 ≤ r) (h : 4096 < (Lib.trimLeftB l 48).length) : 4096 < bl (dval r l) := dval_long h2 h
/-! ### What Parse answers -/
/-- The error of a text and a radix, by the number's length. -/
def pbad (s : ByteArray) (R : Int) : Int :=
  if R < 2 ∨ 36 < R then 13 else if allD (unsigned s) R.toNat = true then (if 4096 < bl (dval R.toNat (unsigned s).data.toList) then 10 else 0) else 12
theorem pbad_text {s : ByteArray} {r : Nat} (h2 : 2 ≤ r) (h36 : r ≤ 36) (h : allD (unsigned s) r = false) : pbad s (r : Int) = 12 := by
  unfold pbad; rw [if_neg (by omega), Int.toNat_natCast, h]; rfl
theorem pbad_far {s : ByteArray} {r : Nat} (h2 : 2 ≤ r) (h36 : r ≤ 36) (h : allD (unsigned s) r = true) (hl : 4096 < bl (dval r (unsigned s).data.toList)) : pbad s (r : Int) = 10 := by
  unfold pbad; rw [if_neg (by omega), Int.toNat_natCast, h, if_pos rfl, if_pos hl]
theorem pbad_good {s : ByteArray} {r : Nat} (h2 : 2 ≤ r) (h36 : r ≤ 36) (h : allD (unsigned s) r = true) (hl : ¬ 4096 < bl (dval r (unsigned s).data.toList)) : pbad s (r : Int) = 0 := by
  unfold pbad; rw [if_neg (by omega), Int.toNat_natCast, h, if_pos rfl, if_neg hl]
theorem bare_val (s : ByteArray) (r : Nat) : dval r (bare s).data.toList = dval r (unsigned s).data.toList := by
  unfold bare
  exact dval_trim r _
theorem bare_mem {s : ByteArray} {c : UInt8} (h : c ∈ (bare s).data.toList) : c ∈ (unsigned s).data.toList := by
  unfold bare at h
  exact trim_mem h
theorem allD_mem {t : ByteArray} {r : Nat} (h : allD t r = true) {c : UInt8} (hc : c ∈ t.data.toList) : dv c.toNat < r := by
  unfold allD at h
  obtain ⟨_, h⟩ := of_decide_eq_true h
  obtain ⟨j, hj, e⟩ := List.getElem_of_mem hc
  have := h j (by simpa using hj)
  have e2 : t[j]'(by simpa using hj) = c := e
  rw [← e2]; exact this
end Go.Proofs.YtiaddfedaikaiaaGreatDoor

namespace Go.Proofs.YtiaddfedaikaiaaGreatDoor
open Go.RowKit Lm

set_option maxRecDepth 100000 in
set_option maxHeartbeats 2000000 in
theorem parse_text (s : ByteArray) (r : Nat) (w : World) (h2 : 2 ≤ r) (h36 : r ≤ 36) (hus : (unsigned s).size ≤ maxLen) (hall : allD (unsigned s) r = false) :
    Calls Tryz.prog 176 #[.string s, .int .i64 (r : Int)] w fun e w' => e = .returned (.tuple #[.agg #[.bool false, .slice none 0 0], .int .i64 12]) ∧ Below w.heap.size w w' := by
  have HUS := hid hus
  have hcut : ∀ wx, Calls Tryz.prog 183 #[.string s, .string ⟨#[45]⟩] wx fun e w' => e = .returned (.tuple #[.string (unsigned s), .bool (signed s)]) ∧ wx = w' := fun wx =>
    (Tryz.strings_CutPrefix s ⟨#[45]⟩ wx).mono fun e w' h => ⟨h.1, h.2.symm⟩
  have Hcut := hid hcut
  clear hus hcut
  generalize signed s = sg at *
  generalize unsigned s = us at *
  go_enter Tryz.func176, Tryz.ntmps176
  go_wp2_with (first
    | (go_at_call 182; refine (isRadix_yes r _ h2 h36).mono ?_; rintro e w1 ⟨rfl, rfl⟩)
    | (go_at_call 183; refine (Hcut.out _).mono ?_; rintro e w1 ⟨rfl, rfl⟩)
    | (go_at_call 184; refine (areDigits_any us r _ HUS.out h36).mono ?_; rintro e w1 ⟨rfl, rfl⟩; rw [hall]))
  refine bodyPost_ret (v := .tuple #[.agg #[.bool false, .slice none 0 0], .int .i64 12]) (by simp [results, Tryz.results176, go_sem]) rfl ⟨rfl, ?_⟩
  first
    | exact (((Below.refl _ _).alloc (Nat.le_refl _) _).setCell (by simp) _).setCell (by simp) _
    | exact (Below.refl _ _).alloc (Nat.le_refl _) _

set_option maxRecDepth 100000 in
set_option maxHeartbeats 2000000 in
theorem parse_far (s : ByteArray) (r : Nat) (w : World) (h2 : 2 ≤ r) (h36 : r ≤ 36) (hus : (unsigned s).size ≤ maxLen) (hall : allD (unsigned s) r = true) (hbs : 4096 < (bare s).size) :
    Calls Tryz.prog 176 #[.string s, .int .i64 (r : Int)] w fun e w' => e = .returned (.tuple #[.agg #[.bool false, .slice none 0 0], .int .i64 10]) ∧ Below w.heap.size w w' := by
  have HUS := hid hus
  have hcut : ∀ wx, Calls Tryz.prog 183 #[.string s, .string ⟨#[45]⟩] wx fun e w' => e = .returned (.tuple #[.string (unsigned s), .bool (signed s)]) ∧ wx = w' := fun wx =>
    (Tryz.strings_CutPrefix s ⟨#[45]⟩ wx).mono fun e w' h => ⟨h.1, h.2.symm⟩
  have htrim : ∀ wx, Calls Tryz.prog 185 #[.string (unsigned s), .string ⟨#[48]⟩] wx fun e w' => e = .returned (.string (bare s)) ∧ wx = w' := fun wx =>
    (Tryz.strings_TrimLeft_one (unsigned s) 48 (by decide) wx).mono fun e w' h => ⟨h.1, h.2.symm⟩
  have Hcut := hid hcut
  have Htrim := hid htrim
  clear hus hcut htrim
  generalize signed s = sg at *
  generalize unsigned s = us at *
  generalize bare s = bs at *
  go_enter Tryz.func176, Tryz.ntmps176
  go_wp2_with (first
    | (go_at_call 182; refine (isRadix_yes r _ h2 h36).mono ?_; rintro e w1 ⟨rfl, rfl⟩)
    | (go_at_call 183; refine (Hcut.out _).mono ?_; rintro e w1 ⟨rfl, rfl⟩)
    | (go_at_call 184; refine (areDigits_any us r _ HUS.out h36).mono ?_; rintro e w1 ⟨rfl, rfl⟩; rw [hall])
    | (go_at_call 185; refine (Htrim.out _).mono ?_; rintro e w1 ⟨rfl, rfl⟩))
  refine bodyPost_ret (v := .tuple #[.agg #[.bool false, .slice none 0 0], .int .i64 10]) (by simp [results, Tryz.results176, go_sem]) rfl ⟨rfl, ?_⟩
  first
    | exact (((Below.refl _ _).alloc (Nat.le_refl _) _).setCell (by simp) _).setCell (by simp) _
    | exact (Below.refl _ _).alloc (Nat.le_refl _) _

end Go.Proofs.YtiaddfedaikaiaaGreatDoor
