/- Orders by -1, 0, 1: of numbers, of texts, of integers' texts, of floats by their bits: plain. No condition but those that each theorem names. The standard order of trees that may be: it is one: plain. No condition but those that each theorem names. -/
import Derived.Test.YtkapejcbmonfkaaGreatDoorT31m
import Derived.Test.YtkapejcbmonfkaaGreatDoorT34
namespace Go.Proofs.YtkapejcbmonfkaaGreatDoor

/-- It turns about, and goes through. -/
structure Ordr {α : Type} (S : α → Prop) (f : α → α → Int) : Prop where
  anti : ∀ a b, S a → S b → f b a = -f a b
  trans : ∀ a b c, S a → S b → S c → f a b ≤ 0 → f b c ≤ 0 → f a c ≤ 0
section
variable {α β : Type} {S : α → Prop} {f g : α → α → Int}
theorem Ordr.eq (h : Ordr S f) {a b c : α} (ha : S a) (hb : S b) (hc : S c) (h1 : f a b ≤ 0) (h2 : f b c ≤ 0) (h3 : f a c = 0) : f a b = 0 ∧ f b c = 0 := by
  have e1 := h.anti a b ha hb
  have e2 := h.anti b c hb hc
  have e3 := h.anti a c ha hc
  have t1 := h.trans b c a hb hc ha h2 (by omega)
  have t2 := h.trans c a b hc ha hb (by omega) h1
  omega
theorem Ordr.step (h : Ordr S f) {a b c : α} (ha : S a) (hb : S b) (hc : S c) {g1 g2 g3 : Int} (hg : f a b = 0 → f b c = 0 → f a c = 0 → g1 ≤ 0 → g2 ≤ 0 → g3 ≤ 0) (h1 : orI (f a b) g1 ≤ 0) (h2 : orI (f b c) g2 ≤ 0) : orI (f a c) g3 ≤ 0 := by
  unfold orI at h1 h2 ⊢
  have l1 : f a b ≤ 0 := by split at h1 <;> omega
  have l2 : f b c ≤ 0 := by split at h2 <;> omega
  have l3 := h.trans a b c ha hb hc l1 l2
  by_cases h0 : f a c = 0
  · obtain ⟨e1, e2⟩ := h.eq ha hb hc l1 l2 h0
    rw [if_pos h0]
    rw [if_pos e1] at h1
    rw [if_pos e2] at h2
    exact hg e1 e2 h0 h1 h2
  · rw [if_neg h0]; exact l3
theorem Ordr.mono (h : Ordr S f) {T : α → Prop} (hT : ∀ a, T a → S a) : Ordr T f :=
  ⟨fun a b ha hb => h.anti a b (hT a ha) (hT b hb), fun a b c ha hb hc => h.trans a b c (hT a ha) (hT b hb) (hT c hc)⟩
end
theorem orI_zero {x y : Int} : orI x y = 0 ↔ x = 0 ∧ y = 0 := by unfold orI; split <;> omega
theorem cmpI_zero {a b : Int} : cmpI a b = 0 ↔ a = b := by
  unfold cmpI
  repeat' split
  all_goals omega
theorem cmpS_lt {a b : List UInt8} (h : a < b) : cmpS a b = -1 := by unfold cmpS; rw [if_pos h]
theorem cmpS_gt {a b : List UInt8} (h : b < a) : cmpS a b = 1 := by
  unfold cmpS
  rw [if_neg (fun k => List.lt_irrefl _ (List.lt_trans h k)), if_pos h]
theorem cmpS_same (a : List UInt8) : cmpS a a = 0 := by
  unfold cmpS
  rw [if_neg (List.lt_irrefl _), if_neg (List.lt_irrefl _)]
theorem cmpS_zero {a b : List UInt8} : cmpS a b = 0 ↔ a = b := by
  rcases names_tri a b with h | h | h
  · rw [cmpS_lt h]
    exact ⟨fun k => (by cases k), fun k => absurd h (k ▸ List.lt_irrefl _)⟩
  · rw [cmpS_gt h]
    exact ⟨fun k => (by cases k), fun k => absurd h (k ▸ List.lt_irrefl _)⟩
  · subst h; simp [cmpS_same]
theorem bytes_ext {a b : ByteArray} (h : a.data.toList = b.data.toList) : a = b := ByteArray.ext (Array.toList_inj.1 h)
theorem digits_zero {a b : ByteArray} : digitsWay a b = 0 ↔ a = b := by
  unfold digitsWay
  rw [orI_zero, cmpS_zero]
  exact ⟨fun h => bytes_ext h.2, fun h => by subst h; exact ⟨cmpI_zero.2 rfl, rfl⟩⟩
theorem neg_parts (s : ByteArray) : s.data.toList = (if negT s then [45] else []) ++ (bareT s).data.toList := by
  unfold negT bareT Lib.trimPrefix
  cases h : Lib.hasPrefix s.data.toList [45] with
  | true =>
    unfold Lib.hasPrefix at h
    generalize s.data.toList = l at *
    cases l with
    | nil => simp at h
    | cons y m => simp at h; subst h; simp
  | false => simp
theorem nums_zero {a b : ByteArray} : numsWay a b = 0 ↔ a = b := by
  have ea := neg_parts a
  have eb := neg_parts b
  unfold numsWay
  constructor
  · intro h
    cases ha : negT a <;> cases hb : negT b <;> rw [ha] at ea <;> rw [hb] at eb <;> simp [ha, hb] at h
    · rw [digits_zero] at h; exact bytes_ext (by rw [ea, eb, h])
    · rw [digits_zero] at h; exact bytes_ext (by rw [ea, eb, h])
  · rintro rfl
    have := (digits_zero (a := bareT a) (b := bareT a)).2 rfl
    cases negT a <;> simp [this]

/-! ### floats -/
/-- What the bits without a sign count, in units of the least. -/
def fmag (r : Nat) : Nat := if r < 4503599627370496 then r else (4503599627370496 + r % 4503599627370496) * 2 ^ (r / 4503599627370496 - 1)
def fval (n : Nat) : Int := if n / 9223372036854775808 % 2 == 1 then -(fmag (n % 9223372036854775808) : Int) else (fmag (n % 9223372036854775808) : Int)
def FinB (n : Nat) : Prop := n % 9223372036854775808 < 9218868437227405312
theorem read_num (n : Nat) (h : FinB n) : ∃ (m : Nat) (p : Nat), FloatKind.f64.format.read n = .number (n / 9223372036854775808 % 2 == 1) m (-1074 + (p : Int)) ∧ m * 2 ^ p = fmag (n % 9223372036854775808) := by
  unfold FinB at h
  have e : FloatKind.f64.format.read n = (if n % 9223372036854775808 < 4503599627370496 then .number (n / 9223372036854775808 % 2 == 1) (n % 9223372036854775808) (-1074)
      else if n % 9223372036854775808 < 9218868437227405312 then .number (n / 9223372036854775808 % 2 == 1) (4503599627370496 + n % 9223372036854775808 % 4503599627370496) (-1074 + (n % 9223372036854775808 / 4503599627370496 - 1 : Nat))
      else if n % 9223372036854775808 = 9218868437227405312 then .infinity (n / 9223372036854775808 % 2 == 1) else .nan (n / 9223372036854775808 % 2 == 1) (n % 9223372036854775808 - 9218868437227405312)) := rfl
  rw [e]
  unfold fmag
  by_cases h1 : n % 9223372036854775808 < 4503599627370496
  · rw [if_pos h1, if_pos h1]; exact ⟨_, 0, rfl, by simp⟩
  · rw [if_neg h1, if_pos h, if_neg h1]; exact ⟨_, _, rfl, rfl⟩
theorem cmp_scale (x y : Int) (k : Nat) : compare (x * (2 ^ k : Nat)) (y * (2 ^ k : Nat)) = compare x y := by
  have hk : (0 : Int) < ((2 ^ k : Nat) : Int) := Int.ofNat_lt.2 (Nat.pow_pos (by decide))
  generalize ((2 ^ k : Nat) : Int) = K at *
  simp only [compare, compareOfLessAndEq]
  by_cases h1 : x < y
  · rw [if_pos h1, if_pos (Int.mul_lt_mul_of_pos_right h1 hk)]
  · by_cases h2 : x = y
    · subst h2; simp
    · have h3 : y < x := by omega
      have h4 := Int.mul_lt_mul_of_pos_right h3 hk
      rw [if_neg h1, if_neg h2, if_neg (by omega), if_neg (by omega)]
theorem signed_mul (s : Bool) (m a b : Nat) : Ieee.signed s m (a + b) = Ieee.signed s m a * ((2 ^ b : Nat) : Int) := by
  unfold Ieee.signed
  rw [Nat.shiftLeft_eq, Nat.shiftLeft_eq, Nat.pow_add, ← Nat.mul_assoc]
  cases s <;> simp [Int.neg_mul]
theorem order_fin (a b : Nat) (ha : FinB a) (hb : FinB b) : FloatKind.f64.format.order a b = some (compare (fval a) (fval b)) := by
  obtain ⟨m, p, e1, f1⟩ := read_num a ha
  obtain ⟨n, q, e2, f2⟩ := read_num b hb
  have v1 : fval a = Ieee.signed (a / 9223372036854775808 % 2 == 1) m p := by
    unfold fval Ieee.signed
    rw [← f1, Nat.shiftLeft_eq]
  have v2 : fval b = Ieee.signed (b / 9223372036854775808 % 2 == 1) n q := by
    unfold fval Ieee.signed
    rw [← f2, Nat.shiftLeft_eq]
  rw [order_def, e1, e2, v1, v2]
  generalize (a / 9223372036854775808 % 2 == 1) = s
  generalize (b / 9223372036854775808 % 2 == 1) = t
  show some (compare (Ieee.signed s m (-1074 + (p : Int) - min (-1074 + (p : Int)) (-1074 + (q : Int))).toNat) (Ieee.signed t n (-1074 + (q : Int) - min (-1074 + (p : Int)) (-1074 + (q : Int))).toNat)) = _
  have h1 : p = (-1074 + (p : Int) - min (-1074 + (p : Int)) (-1074 + (q : Int))).toNat + min p q := by omega
  have h2 : q = (-1074 + (q : Int) - min (-1074 + (p : Int)) (-1074 + (q : Int))).toNat + min p q := by omega
  generalize (-1074 + (p : Int) - min (-1074 + (p : Int)) (-1074 + (q : Int))).toNat = x at *
  generalize (-1074 + (q : Int) - min (-1074 + (p : Int)) (-1074 + (q : Int))).toNat = y at *
  generalize min p q = z at *
  subst h1; subst h2
  rw [signed_mul, signed_mul, cmp_scale]
theorem fmag_lt {r r' : Nat} (h : r < r') : fmag r < fmag r' := by
  unfold fmag
  by_cases h1 : r < 4503599627370496
  · rw [if_pos h1]
    by_cases h2 : r' < 4503599627370496
    · rw [if_pos h2]; exact h
    · rw [if_neg h2]
      have h3 : 1 ≤ 2 ^ (r' / 4503599627370496 - 1) := Nat.one_le_two_pow
      have h4 := Nat.mul_le_mul_left (4503599627370496 + r' % 4503599627370496) h3
      omega
  · have h2 : ¬ r' < 4503599627370496 := by omega
    rw [if_neg h1, if_neg h2]
    have hm : r % 4503599627370496 < 4503599627370496 := Nat.mod_lt _ (by decide)
    by_cases he : r / 4503599627370496 = r' / 4503599627370496
    · rw [he]
      exact Nat.mul_lt_mul_of_pos_right (by omega) (Nat.pow_pos (by decide))
    · have he2 : r / 4503599627370496 < r' / 4503599627370496 := by omega
      obtain ⟨d, hd⟩ : ∃ d, r' / 4503599627370496 - 1 = (r / 4503599627370496 - 1) + 1 + d := ⟨r' / 4503599627370496 - 1 - (r / 4503599627370496 - 1) - 1, by omega⟩
      rw [hd, Nat.pow_add, Nat.pow_succ]
      have hK : 0 < 2 ^ (r / 4503599627370496 - 1) := Nat.pow_pos (by decide)
      have h3 : 1 ≤ 2 ^ d := Nat.one_le_two_pow
      generalize 2 ^ (r / 4503599627370496 - 1) = K at *
      generalize 2 ^ d = E at *
      have h4 : 4503599627370496 * (K * 2 * 1) ≤ (4503599627370496 + r' % 4503599627370496) * (K * 2 * E) := Nat.mul_le_mul (by omega) (Nat.mul_le_mul_left _ h3)
      have h5 : (4503599627370496 + r % 4503599627370496) * K < 9007199254740992 * K := Nat.mul_lt_mul_of_pos_right (by omega) hK
      exact Nat.lt_of_lt_of_le h5 (Nat.le_trans (by omega) h4)
theorem fmag_inj {r r' : Nat} (h : fmag r = fmag r') : r = r' := by
  rcases Nat.lt_trichotomy r r' with k | k | k
  · have := fmag_lt k; omega
  · exact k
  · have := fmag_lt k; omega
theorem fmag_zero {r : Nat} (h : fmag r = 0) : r = 0 := fmag_inj (h.trans (by decide))
theorem bits_fin (n : Nat) (_h1 : n < 18446744073709551616) (h : bitsOk n = true) : FinB n ∧ n ≠ 9223372036854775808 := by
  unfold bitsOk at h
  simp at h
  unfold FinB
  omega
theorem fval_inj {a b : Nat} (h1 : a < 18446744073709551616) (h2 : b < 18446744073709551616) (ha : a ≠ 9223372036854775808) (hb : b ≠ 9223372036854775808) (h : fval a = fval b) : a = b := by
  unfold fval at h
  have sa : a / 9223372036854775808 = 0 ∨ a / 9223372036854775808 = 1 := by omega
  have sb : b / 9223372036854775808 = 0 ∨ b / 9223372036854775808 = 1 := by omega
  rcases sa with sa | sa <;> rcases sb with sb | sb <;> rw [sa, sb] at h <;> simp at h
  · have := fmag_inj (by omega : fmag (a % 9223372036854775808) = fmag (b % 9223372036854775808)); omega
  · have e1 := fmag_zero (by omega : fmag (b % 9223372036854775808) = 0); omega
  · have e1 := fmag_zero (by omega : fmag (a % 9223372036854775808) = 0); omega
  · have := fmag_inj (by omega : fmag (a % 9223372036854775808) = fmag (b % 9223372036854775808)); omega
/-- How two floats stand, by their bits. -/
def cmpF (a b : Int) : Int := match FloatKind.f64.format.order a.toNat b.toNat with | some .lt => -1 | some .gt => 1 | _ => 0
theorem cmpF_fin (a b : Int) (ha : FinB a.toNat) (hb : FinB b.toNat) : cmpF a b = cmpI (fval a.toNat) (fval b.toNat) := by
  unfold cmpF cmpI
  rw [order_fin _ _ ha hb]
  simp only [compare, compareOfLessAndEq]
  by_cases h1 : fval a.toNat < fval b.toNat
  · rw [if_pos h1, if_pos h1]
  · rw [if_neg h1, if_neg h1]
    by_cases h2 : fval a.toNat = fval b.toNat
    · rw [if_pos h2, if_neg (by omega)]
    · rw [if_neg h2, if_pos (by omega)]
end Go.Proofs.YtkapejcbmonfkaaGreatDoor

namespace Go.Proofs.YtkapejcbmonfkaaGreatDoor

/-- Where the terms of a kind stand. -/
def rankT (k : Int) : Int := if k = 1 then 0 else if k = 4 then 1 else if k = 3 then 2 else if k = 2 then 3 else 4
mutual
/-- How two trees stand. -/
def ordT : Tm → Tm → Int
  | .mk k n u b v l, t => orI (cmpI (rankT k) (rankT t.kind)) (if k = 1 then cmpI v t.var else if k = 4 then cmpF b t.bits else if k = 3 then numsWay u t.num else orI (orI (cmpI (l.length : Int) (t.args.length : Int)) (cmpS n.data.toList t.name.data.toList)) (ordL l t.args))
def ordL : List Tm → List Tm → Int
  | [], _ => 0
  | _ :: _, [] => 0
  | t :: l, u :: m => orI (ordT t u) (ordL l m)
end
def ordG (a b : Tm) : Int := if a.kind = 1 then cmpI a.var b.var else if a.kind = 4 then cmpF a.bits b.bits else if a.kind = 3 then numsWay a.num b.num else orI (orI (cmpI (a.args.length : Int) (b.args.length : Int)) (cmpS a.name.data.toList b.name.data.toList)) (ordL a.args b.args)
theorem ordT_eq (a b : Tm) : ordT a b = orI (cmpI (rankT a.kind) (rankT b.kind)) (ordG a b) := by
  cases a; cases b; rw [ordT]; rfl
/-- A tree that may be. -/
def Good (t : Tm) : Prop := AllT DomA t ∧ treeErr vName numOk bitsOk t = 0
theorem Good.node {t : Tm} (h : Good t) : nodeErr vName numOk bitsOk t = 0 := by
  have := h.2
  rw [treeErr_args] at this
  by_cases h0 : nodeErr vName numOk bitsOk t = 0
  · exact h0
  · rw [if_neg h0] at this; exact this
theorem rowErr_zero {l : List Tm} (h : rowErr vName numOk bitsOk l = 0) : ∀ t ∈ l, treeErr vName numOk bitsOk t = 0 := by
  induction l with
  | nil => intro t ht; cases ht
  | cons u l ih =>
    unfold rowErr at h
    by_cases h0 : treeErr vName numOk bitsOk u = 0
    · rw [if_pos h0] at h
      intro t ht
      rcases List.mem_cons.1 ht with rfl | ht
      · exact h0
      · exact ih h t ht
    · rw [if_neg h0] at h; exact absurd h h0
theorem Good.arg {t : Tm} (h : Good t) : ∀ u ∈ t.args, Good u ∧ nodes u < nodes t := by
  intro u hu
  have h1 := h.2
  rw [treeErr_args, if_pos h.node] at h1
  obtain ⟨k, hk, rfl⟩ := List.getElem_of_mem hu
  exact ⟨⟨h.1.arg k hk, rowErr_zero h1 _ hu⟩, nodes_lt hk⟩
/-- What a node that may be holds, by its kind. -/
structure NodeOk (t : Tm) : Prop where
  kind : 1 ≤ t.kind ∧ t.kind ≤ 5
  name : t.kind = 2 ∨ t.kind = 5 ∨ t.name = ⟨#[]⟩
  num : t.kind = 3 ∨ t.num = ⟨#[]⟩
  bits : t.kind = 4 ∨ t.bits = 0
  var : t.kind = 1 ∨ t.var = 0
  args : t.kind = 5 ∨ t.args = []
  fin : t.kind = 4 → FinB t.bits.toNat ∧ t.bits.toNat ≠ 9223372036854775808 ∧ t.bits.toNat < 18446744073709551616 ∧ 0 ≤ t.bits
theorem empty_of {s : ByteArray} (h : s.toList.isEmpty = true) : s = ⟨#[]⟩ := by
  rw [ByteArray.toList_eq, List.isEmpty_iff] at h
  exact bytes_ext (by rw [h])
theorem Good.ok {t : Tm} (h : Good t) : NodeOk t := by
  have hn := h.node
  have hd := h.1.head
  unfold nodeErr at hn
  have hf : fieldsOk t = true := by
    cases e : fieldsOk t with
    | true => rfl
    | false => rw [e] at hn; simp at hn
  rw [hf] at hn
  simp only [Bool.true_eq_false, if_false] at hn
  unfold fieldsOk at hf
  simp only [Bool.and_eq_true, Bool.or_eq_true, decide_eq_true_eq] at hf
  obtain ⟨⟨⟨⟨⟨⟨⟨k1, k2⟩, hnm⟩, hnu⟩, hbi⟩, hva⟩, _⟩, har⟩ := hf
  refine ⟨⟨k1, k2⟩, ?_, hnu.imp id empty_of, hbi, hva, ?_, fun h4 => ?_⟩
  · rcases hnm with (h | h) | h
    · exact .inl h
    · exact .inr (.inl h)
    · exact .inr (.inr (empty_of h))
  · by_cases h5 : t.kind = 5
    · exact .inl h5
    · rw [if_neg h5] at har
      exact .inr (List.length_eq_zero_iff.1 (by simpa using har))
  · have hb : bitsOk t.bits = true := by
      cases e : bitsOk t.bits with
      | true => rfl
      | false =>
        exfalso
        split at hn
        · cases hn
        · rw [if_neg (by omega), if_pos ⟨h4, e⟩] at hn; cases hn
    have h0 := hd.lo
    have h1 := hd.hi
    obtain ⟨n, hn⟩ : ∃ n : Nat, t.bits = (n : Int) := ⟨t.bits.toNat, by omega⟩
    rw [hn] at hb h1 ⊢
    rw [Int.toNat_natCast]
    obtain ⟨f1, f2⟩ := bits_fin n (by omega) hb
    exact ⟨f1, f2, by omega, by omega⟩
theorem rank_inj {a b : Int} (ha : 1 ≤ a ∧ a ≤ 5) (hb : 1 ≤ b ∧ b ≤ 5) (h : rankT a = rankT b) : a = b := by
  unfold rankT at h
  repeat' split at h
  all_goals omega
theorem cmpF_zero {a b : Tm} (ha : NodeOk a) (hb : NodeOk b) (h4 : a.kind = 4) (h4' : b.kind = 4) : cmpF a.bits b.bits = 0 ↔ a.bits = b.bits := by
  obtain ⟨f1, n1, l1, z1⟩ := ha.fin h4
  obtain ⟨f2, n2, l2, z2⟩ := hb.fin h4'
  rw [cmpF_fin _ _ f1 f2, cmpI_zero]
  exact ⟨fun h => by have := fval_inj l1 l2 n1 n2 h; omega, fun h => by rw [h]⟩
mutual
theorem ordT_zero : ∀ (a b : Tm), Good a → Good b → (ordT a b = 0 ↔ a = b)
  | .mk k n u bi v l, b, ha, hb => by
    have oa := ha.ok
    have ob := hb.ok
    have ca := ha.arg
    have cb := hb.arg
    have hL := ordL_zero l b.args
    rw [ordT_eq, orI_zero, cmpI_zero]
    constructor
    · rintro ⟨h1, h2⟩
      have hk := rank_inj oa.kind ob.kind h1
      cases b with
      | mk k' n' u' bi' v' l' =>
        obtain ⟨ka, na, ua, ba, va, la, fa⟩ := oa
        obtain ⟨kb, nb, ub, bb, vb, lb, fb⟩ := ob
        unfold ordG at h2
        simp only [Tm.kind, Tm.name, Tm.num, Tm.bits, Tm.var, Tm.args] at *
        subst hk
        rcases (show k = 1 ∨ k = 2 ∨ k = 3 ∨ k = 4 ∨ k = 5 by omega) with rfl | rfl | rfl | rfl | rfl
        · simp at na nb ua ub ba bb la lb
          simp [cmpI_zero] at h2
          subst na nb ua ub ba bb la lb h2; rfl
        · simp at ua ub ba bb va vb la lb
          subst ua ub ba bb va vb la lb
          simp [orI_zero, cmpS_zero, cmpI_zero, ordL] at h2
          have := bytes_ext (by simpa using h2 : n.data.toList = n'.data.toList)
          subst this; rfl
        · simp at na nb ba bb va vb la lb
          subst na nb ba bb va vb la lb
          simp [nums_zero] at h2
          subst h2; rfl
        · simp at na nb ua ub va vb la lb
          subst na nb ua ub va vb la lb
          have hz := cmpF_zero ha.ok hb.ok rfl rfl
          simp only [Tm.bits] at hz
          simp at h2
          rw [hz] at h2
          subst h2; rfl
        · simp at ua ub ba bb va vb
          subst ua ub ba bb va vb
          simp only [show ((5 : Int) = 1) = False by simp, show ((5 : Int) = 4) = False by simp, show ((5 : Int) = 3) = False by simp, if_false, orI_zero, cmpI_zero, cmpS_zero] at h2
          obtain ⟨⟨g1, g2⟩, g3⟩ := h2
          have := bytes_ext g2
          subst this
          have := (hL (by omega) (fun t ht => (ca t ht).1) (fun t ht => (cb t ht).1)).1 g3
          subst this; rfl
    · rintro rfl
      refine ⟨rfl, ?_⟩
      unfold ordG
      split
      · exact cmpI_zero.2 rfl
      split
      · rename_i h4; exact (cmpF_zero oa oa h4 h4).2 rfl
      split
      · exact nums_zero.2 rfl
      · rw [orI_zero, orI_zero, cmpI_zero, cmpS_zero]
        exact ⟨⟨rfl, rfl⟩, (hL rfl (fun t ht => (ca t ht).1) (fun t ht => (ca t ht).1)).2 rfl⟩
theorem ordL_zero : ∀ (l m : List Tm), l.length = m.length → (∀ t ∈ l, Good t) → (∀ t ∈ m, Good t) → (ordL l m = 0 ↔ l = m)
  | [], [], _, _, _ => by simp [ordL]
  | [], _ :: _, e, _, _ => by simp at e
  | _ :: _, [], e, _, _ => by simp at e
  | t :: l, u :: m, e, hl, hm => by
    have h1 := ordT_zero t u (hl t (by simp)) (hm u (by simp))
    have h2 := ordL_zero l m (by simpa using e) (fun x hx => hl x (by simp [hx])) (fun x hx => hm x (by simp [hx]))
    show orI (ordT t u) (ordL l m) = 0 ↔ _
    rw [orI_zero, h1, h2]
    simp
end
end Go.Proofs.YtkapejcbmonfkaaGreatDoor
