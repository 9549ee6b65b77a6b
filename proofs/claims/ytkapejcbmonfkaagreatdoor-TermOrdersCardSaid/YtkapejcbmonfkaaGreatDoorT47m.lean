/- The document's order of integers' texts and of floats' bits is the program's: plain. No condition but those that each theorem names. Walks of the document's answer: sign, texts, rank, Ints, Floats. No condition but those that each theorem names. Walks of the document's answer: Floats. No condition but those that each theorem names. -/
import Derived.Test.YtkapejcbmonfkaaGreatDoorT38m
import Derived.Test.YtkapejcbmonfkaaGreatDoorT41m
namespace Go.Proofs.YtkapejcbmonfkaaGreatDoor
open Go.RowKit

/-- The document's order of two integers' texts. -/
def intsR (a b : ByteArray) : Int :=
  if negT a = negT b then (if negT a then -orI (cmpI (a.size : Int) (b.size : Int)) (cmpS a.data.toList b.data.toList) else orI (cmpI (a.size : Int) (b.size : Int)) (cmpS a.data.toList b.data.toList)) else if negT a then -1 else 1
theorem cmpS_cons (x : UInt8) (a b : List UInt8) : cmpS (x :: a) (x :: b) = cmpS a b := by
  unfold cmpS
  have h : ∀ l m : List UInt8, (x :: l < x :: m) = (l < m) := fun l m => by
    simp
  simp only [h]
theorem intsR_eq (a b : ByteArray) : intsR a b = numsWay a b := by
  have ea := neg_parts a
  have eb := neg_parts b
  have za : a.size = a.data.toList.length := Lib.size_eq a
  have zb : b.size = b.data.toList.length := Lib.size_eq b
  have wa : (bareT a).size = (bareT a).data.toList.length := Lib.size_eq _
  have wb : (bareT b).size = (bareT b).data.toList.length := Lib.size_eq _
  have hd : digitsWay (bareT b) (bareT a) = -digitsWay (bareT a) (bareT b) := digits_ordr.anti _ _ trivial trivial
  unfold intsR numsWay
  cases ha : negT a <;> cases hb : negT b <;> rw [ha] at ea <;> rw [hb] at eb
  · simp at ea eb
    rw [if_pos rfl, if_neg (by simp), if_neg (by simp), if_neg (by simp)]
    unfold digitsWay
    rw [za, zb, wa, wb, ea, eb]
  · rfl
  · rfl
  · simp at ea eb
    rw [if_pos rfl, if_pos rfl, if_pos rfl, if_pos rfl, hd]
    unfold digitsWay
    rw [za, zb, wa, wb, ea, eb, cmpS_cons]
    congr 2
    unfold cmpI
    simp
/-- The document's key of a float. -/
def keyR (n : Nat) : Nat := if n / 9223372036854775808 % 2 = 1 then 18446744073709551615 - n else n % 9223372036854775808 + 9223372036854775808
theorem keyR_lt {a b : Nat} (ha : a < 18446744073709551616) (hb : b < 18446744073709551616) (na : a ≠ 9223372036854775808) (nb : b ≠ 9223372036854775808) (h : fval a < fval b) : keyR a < keyR b := by
  unfold fval at h
  unfold keyR
  have sa : a / 9223372036854775808 = 0 ∨ a / 9223372036854775808 = 1 := by omega
  have sb : b / 9223372036854775808 = 0 ∨ b / 9223372036854775808 = 1 := by omega
  have mono : ∀ r r', fmag r < fmag r' → r < r' := fun r r' hh => by
    rcases Nat.lt_trichotomy r r' with k | k | k
    · exact k
    · subst k; omega
    · have := fmag_lt k; omega
  rcases sa with sa | sa <;> rcases sb with sb | sb <;> rw [sa, sb] at h ⊢ <;> simp at h ⊢
  · have := mono _ _ h; omega
  · omega
  · omega
  · have := mono (b % 9223372036854775808) (a % 9223372036854775808) (by omega); omega
theorem cmpF_key {a b : Int} (ha : FinB a.toNat ∧ a.toNat ≠ 9223372036854775808 ∧ a.toNat < 18446744073709551616 ∧ 0 ≤ a) (hb : FinB b.toNat ∧ b.toNat ≠ 9223372036854775808 ∧ b.toNat < 18446744073709551616 ∧ 0 ≤ b) :
    cmpF a b = cmpI (keyR a.toNat : Int) (keyR b.toNat : Int) := by
  rw [cmpF_fin _ _ ha.1 hb.1]
  rcases (show fval a.toNat < fval b.toNat ∨ fval b.toNat < fval a.toNat ∨ fval a.toNat = fval b.toNat by omega) with h | h | h
  · have := keyR_lt ha.2.2.1 hb.2.2.1 ha.2.1 hb.2.1 h
    unfold cmpI
    rw [if_pos h, if_pos (by omega)]
  · have := keyR_lt hb.2.2.1 ha.2.2.1 hb.2.1 ha.2.1 h
    unfold cmpI
    rw [if_neg (by omega), if_pos h, if_neg (by omega), if_pos (by omega)]
  · have := fval_inj ha.2.2.1 hb.2.2.1 ha.2.1 hb.2.1 h
    rw [this]
    unfold cmpI
    rw [if_neg (by omega), if_neg (by omega), if_neg (by omega), if_neg (by omega)]
end Go.Proofs.YtkapejcbmonfkaaGreatDoor

namespace Go.Proofs.YtkapejcbmonfkaaGreatDoor
open Go.RowKit Go.Sort

theorem cmpI_range2 (x y : Int) : cmpI x y = -1 ∨ cmpI x y = 0 ∨ cmpI x y = 1 := by unfold cmpI; split <;> (try split) <;> simp
theorem cmpS_range2 (x y : List UInt8) : cmpS x y = -1 ∨ cmpS x y = 0 ∨ cmpS x y = 1 := by unfold cmpS; split <;> (try split) <;> simp
set_option maxRecDepth 100000 in
theorem signR_any (x y : Int) (w : World) : Calls Tryz.prog 49 #[.int .i64 x, .int .i64 y] w fun e w' => e = .returned (.int .i64 (cmpI x y)) ∧ w' = w := by
  obtain ⟨z, hz⟩ : ∃ z, z = cmpI x y := ⟨_, rfl⟩
  rw [← hz]
  unfold cmpI at hz
  rcases (show x < y ∨ y < x ∨ (¬ x < y ∧ ¬ y < x) by omega) with h | h | ⟨h, h2⟩
  · rw [if_pos h] at hz
    subst hz
    go_enter Tryz.func49, Tryz.ntmps49
    go_wp2
    go_ret
    exact ⟨rfl, rfl⟩
  · have h2 : ¬ x < y := by omega
    rw [if_neg h2, if_pos h] at hz
    subst hz
    go_enter Tryz.func49, Tryz.ntmps49
    go_wp2
    go_ret
    exact ⟨rfl, rfl⟩
  · rw [if_neg h, if_neg h2] at hz
    subst hz
    go_enter Tryz.func49, Tryz.ntmps49
    go_wp2
    go_ret
    exact ⟨rfl, rfl⟩
set_option maxRecDepth 100000 in
theorem textsR_any (a b : ByteArray) (w : World) : Calls Tryz.prog 53 #[.string a, .string b] w fun e w' => e = .returned (.int .i64 (cmpS a.data.toList b.data.toList)) ∧ w' = w := by
  obtain ⟨z, hz⟩ : ∃ z, z = cmpS a.data.toList b.data.toList := ⟨_, rfl⟩
  rw [← hz]
  have e1 : Op.bytesLess a.toList b.toList = decide (a.data.toList < b.data.toList) := by rw [bytesLess_eq, Lib.toList_data, Lib.toList_data]
  have e3 : Op.bytesLess b.toList a.toList = decide (b.data.toList < a.data.toList) := by rw [bytesLess_eq, Lib.toList_data, Lib.toList_data]
  have e2 : (a.toList == b.toList) = decide (a.data.toList = b.data.toList) := by rw [Lib.toList_data, Lib.toList_data, Bool.eq_iff_iff, beq_iff_eq, decide_eq_true_iff]
  rcases names_tri a.data.toList b.data.toList with h | h | h
  · rw [cmpS_lt h] at hz
    subst hz
    have h1 : Op.bytesLess a.toList b.toList = true := by rw [e1]; exact decide_eq_true h
    clear e1 e2 e3 h
    go_enter Tryz.func53, Tryz.ntmps53
    go_wp2
    go_ret
    exact ⟨rfl, rfl⟩
  · rw [cmpS_gt h] at hz
    subst hz
    have n1 : ¬ a.data.toList < b.data.toList := fun k => List.lt_irrefl _ (List.lt_trans h k)
    have n2 : ¬ a.data.toList = b.data.toList := fun k => List.lt_irrefl _ (k ▸ h)
    have h1 : Op.bytesLess a.toList b.toList = false := by rw [e1]; exact decide_eq_false n1
    have h3 : Op.bytesLess b.toList a.toList = true := by rw [e3]; exact decide_eq_true h
    have h2 : (a.toList == b.toList) = false := by rw [e2]; exact decide_eq_false n2
    clear e1 e2 e3 h n1 n2
    go_enter Tryz.func53, Tryz.ntmps53
    go_wp2
    go_ret
    exact ⟨rfl, rfl⟩
  · rw [h, cmpS_same] at hz
    subst hz
    have n1 : ¬ a.data.toList < b.data.toList := fun k => List.lt_irrefl _ (h ▸ k)
    have n3 : ¬ b.data.toList < a.data.toList := fun k => List.lt_irrefl _ (h ▸ k)
    have h1 : Op.bytesLess a.toList b.toList = false := by rw [e1]; exact decide_eq_false n1
    have h3 : Op.bytesLess b.toList a.toList = false := by rw [e3]; exact decide_eq_false n3
    have h2 : (a.toList == b.toList) = true := by rw [e2]; exact decide_eq_true h
    clear e1 e2 e3 h n1 n3
    go_enter Tryz.func53, Tryz.ntmps53
    go_wp2
    go_ret
    exact ⟨rfl, rfl⟩
theorem rankR_any (k : Int) (w : World) : Calls Tryz.prog 50 #[.int .i64 k] w fun e w' => e = .returned (.int .i64 (rankT k)) ∧ w' = w := by
  obtain ⟨r, hr⟩ : ∃ r, r = rankT k := ⟨_, rfl⟩
  rw [← hr]
  unfold rankT at hr
  rcases (show k = 1 ∨ k = 4 ∨ k = 3 ∨ k = 2 ∨ (k ≠ 1 ∧ k ≠ 4 ∧ k ≠ 3 ∧ k ≠ 2) by omega) with rfl | rfl | rfl | rfl | ⟨h1, h4, h3, h2⟩
  · simp at hr; subst hr
    go_enter Tryz.func50, Tryz.ntmps50
    go_wp2
    go_ret
    exact ⟨rfl, rfl⟩
  · simp at hr; subst hr
    go_enter Tryz.func50, Tryz.ntmps50
    go_wp2
    go_ret
    exact ⟨rfl, rfl⟩
  · simp at hr; subst hr
    go_enter Tryz.func50, Tryz.ntmps50
    go_wp2
    go_ret
    exact ⟨rfl, rfl⟩
  · simp at hr; subst hr
    go_enter Tryz.func50, Tryz.ntmps50
    go_wp2
    go_ret
    exact ⟨rfl, rfl⟩
  · rw [if_neg h1, if_neg h4, if_neg h3, if_neg h2] at hr
    subst hr
    have n1 : (k == 1) = false := beq_eq_false_iff_ne.2 h1
    have n2 : (k == 2) = false := beq_eq_false_iff_ne.2 h2
    have n3 : (k == 3) = false := beq_eq_false_iff_ne.2 h3
    have n4 : (k == 4) = false := beq_eq_false_iff_ne.2 h4
    clear h1 h2 h3 h4
    go_enter Tryz.func50, Tryz.ntmps50
    go_wp2
    go_ret
    exact ⟨rfl, rfl⟩
/-- A text's first byte tells of a sign. -/
theorem neg_first (a : ByteArray) (h : 0 < a.size) : ((a[0].toNat : Int) == 45) = negT a := by
  have hl : 0 < a.data.toList.length := by rw [← Lib.size_eq]; exact h
  have e0 : a[0] = a.data.toList[0] := rfl
  rw [e0]
  clear e0
  unfold negT Lib.hasPrefix
  revert hl
  generalize a.data.toList = l
  intro hl
  cases l with
  | nil => simp at hl
  | cons x m =>
    rw [Bool.eq_iff_iff]
    simp
    constructor
    · intro hx
      have : x.toNat = 45 := by omega
      exact (UInt8.toNat_inj.1 (by rw [this]; rfl)).symm
    · rintro rfl; rfl
set_option maxRecDepth 100000 in
theorem intsR_any (a b : ByteArray) (w : World) (ha : 0 < a.size) (hb : 0 < b.size) (la : a.size ≤ maxLen) (lb : b.size ≤ maxLen) : Calls Tryz.prog 51 #[.string a, .string b] w fun e w' => e = .returned (.int .i64 (numsWay a b)) ∧ w' = w := by
  rw [← intsR_eq]
  unfold maxLen at la lb
  have ka := neg_first a ha
  have kb := neg_first b hb
  have CI := hid (fun W => signR_any (a.size : Int) (b.size : Int) W)
  have CS := hid (fun W => textsR_any a b W)
  have g1 := cmpI_range2 (a.size : Int) (b.size : Int)
  have g2 := cmpS_range2 a.data.toList b.data.toList
  obtain ⟨z, hz⟩ : ∃ z, z = intsR a b := ⟨_, rfl⟩
  rw [← hz]
  unfold intsR at hz
  generalize cmpI (a.size : Int) (b.size : Int) = i at *
  generalize cmpS a.data.toList b.data.toList = s at *
  cases ea : negT a <;> cases eb : negT b <;> rw [ea] at ka <;> rw [eb] at kb <;> simp [ea, eb] at hz <;> rcases g1 with rfl | rfl | rfl <;> rcases g2 with rfl | rfl | rfl
  all_goals
    have HZ := hid hz
    clear hz ea eb
    go_enter Tryz.func51, Tryz.ntmps51
    go_wp2_with (first
      | (go_at_call 49; (with_reducible refine (CI.out _).mono ?_); rintro e w' ⟨rfl, rfl⟩)
      | (go_at_call 53; (with_reducible refine (CS.out _).mono ?_); rintro e w' ⟨rfl, rfl⟩))
    go_ret
    exact ⟨by rw [HZ.out]; rfl, rfl⟩
end Go.Proofs.YtkapejcbmonfkaaGreatDoor

namespace Go.Proofs.YtkapejcbmonfkaaGreatDoor
open Go.RowKit

theorem or_top (a : Nat) (h : a < 9223372036854775808) : bits .or .u64 (a : Int) 9223372036854775808 = (a : Int) + 9223372036854775808 := by
  show IntKind.u64.wrap ((BitVec.ofInt 64 (a : Int) ||| BitVec.ofInt 64 9223372036854775808).toNat : Int) = _
  rw [BitVec.toNat_or, vec_nat64 a (by omega), show (BitVec.ofInt 64 9223372036854775808).toNat = 2 ^ 63 * 1 by decide, Nat.or_comm, ← Nat.two_pow_add_eq_or_of_lt (by omega : a < 2 ^ 63), IntKind.wrap_u64]
  omega
theorem xor_all (a : Nat) (h : a < 18446744073709551616) : bits .xor .u64 (if IntKind.u64.signed = true then -1 else IntKind.u64.max) (a : Int) = 18446744073709551615 - (a : Int) := by
  show IntKind.u64.wrap ((BitVec.ofInt 64 18446744073709551615 ^^^ BitVec.ofInt 64 (a : Int)).toNat : Int) = _
  rw [show BitVec.ofInt 64 18446744073709551615 = BitVec.allOnes 64 by decide, BitVec.allOnes_xor, BitVec.toNat_not, vec_nat64 a h, IntKind.wrap_u64]
  omega
set_option maxRecDepth 100000 in
theorem floatsR_any (a b : Nat) (w : World) (ha : a < 18446744073709551616) (hb : b < 18446744073709551616) : Calls Tryz.prog 52 #[.int .u64 (a : Int), .int .u64 (b : Int)] w fun e w' => e = .returned (.int .i64 (cmpI (keyR a : Int) (keyR b : Int))) ∧ w' = w := by
  have key : ∀ n : Nat, n < 18446744073709551616 → (((n : Int) / 9223372036854775808 == 1) = true ∧ bits .xor .u64 (if IntKind.u64.signed = true then -1 else IntKind.u64.max) (n : Int) = (keyR n : Int)) ∨ (((n : Int) / 9223372036854775808 == 1) = false ∧ bits .or .u64 (n : Int) 9223372036854775808 = (keyR n : Int)) := fun n hn => by
    by_cases h : n / 9223372036854775808 = 1
    · left
      have e : keyR n = 18446744073709551615 - n := by unfold keyR; rw [if_pos (by omega)]
      exact ⟨by rw [beq_iff_eq]; omega, by rw [xor_all n hn, e]; omega⟩
    · right
      have e : keyR n = n % 9223372036854775808 + 9223372036854775808 := by unfold keyR; rw [if_neg (by omega)]
      exact ⟨beq_eq_false_iff_ne.2 (by omega), by rw [or_top n (by omega), e]; omega⟩
  have ka := key a ha
  have kb := key b hb
  have la : keyR a < 18446744073709551616 := by unfold keyR; split <;> omega
  have lb : keyR b < 18446744073709551616 := by unfold keyR; split <;> omega
  obtain ⟨z, hz⟩ : ∃ z, z = cmpI (keyR a : Int) (keyR b : Int) := ⟨_, rfl⟩
  rw [← hz]
  generalize keyR a = x at *
  generalize keyR b = y at *
  clear key
  unfold cmpI at hz
  rcases (show x < y ∨ y < x ∨ (¬ x < y ∧ ¬ y < x) by omega) with h | h | ⟨h, h2⟩
  · rw [if_pos (by omega)] at hz
    subst hz
    have h' : (x : Int) < (y : Int) := by omega
    rcases ka with ⟨k1, k2⟩ | ⟨k1, k2⟩ <;> rcases kb with ⟨k3, k4⟩ | ⟨k3, k4⟩
    all_goals
      go_enter Tryz.func52, Tryz.ntmps52
      go_wp2
      go_ret
      exact ⟨rfl, rfl⟩
  · rw [if_neg (by omega), if_pos (by omega)] at hz
    subst hz
    have h' : (y : Int) < (x : Int) := by omega
    have h'' : ¬ (x : Int) < (y : Int) := by omega
    rcases ka with ⟨k1, k2⟩ | ⟨k1, k2⟩ <;> rcases kb with ⟨k3, k4⟩ | ⟨k3, k4⟩
    all_goals
      go_enter Tryz.func52, Tryz.ntmps52
      go_wp2
      go_ret
      exact ⟨rfl, rfl⟩
  · rw [if_neg (by omega), if_neg (by omega)] at hz
    subst hz
    have h' : ¬ (x : Int) < (y : Int) := by omega
    have h'' : ¬ (y : Int) < (x : Int) := by omega
    rcases ka with ⟨k1, k2⟩ | ⟨k1, k2⟩ <;> rcases kb with ⟨k3, k4⟩ | ⟨k3, k4⟩
    all_goals
      go_enter Tryz.func52, Tryz.ntmps52
      go_wp2
      go_ret
      exact ⟨rfl, rfl⟩
theorem num_some {t : Tm} (h : Good t) (h3 : t.kind = 3) : 0 < t.num.size := by
  have hn := h.node
  unfold nodeErr at hn
  have hv : numOk t.num = true := by
    cases e : numOk t.num with
    | true => rfl
    | false =>
      exfalso
      split at hn
      · cases hn
      · split at hn
        · cases hn
        · rw [if_pos ⟨h3, e⟩] at hn; cases hn
  unfold numOk at hv
  simp only [Bool.and_eq_true, decide_eq_true_eq] at hv
  obtain ⟨h1, _⟩ := pbad_none _ hv.2
  obtain ⟨_, h2⟩ := allD_digits h1
  have h4 := unsigned_le t.num
  have h5 : 0 < (unsigned t.num).size := by rw [Lib.size_eq]; exact List.length_pos_iff.2 h2
  omega
end Go.Proofs.YtkapejcbmonfkaaGreatDoor
