/- Floats by their bits: the program's areBits and the document's floats. No condition but those that each theorem names. Walks of the document's answer: count, Nodes, one, all, Check, Checks, of any trees. No condition but those that each theorem names. -/
import Derived.Laws.Externs
import Derived.Test.YtkapejcbmonfkaaGreatDoorT13m
import Derived.Test.YtkapejcbmonfkaaGreatDoorT27m
namespace Go.Proofs.YtkapejcbmonfkaaGreatDoor
open Go.RowKit

/-- Are bits those of a finite number that is not -0? -/
def bitsOk (n : Int) : Bool := decide (n / 4503599627370496 % 2048 ≠ 2047) && decide (n ≠ 9223372036854775808)
theorem vec_nat64 (a : Nat) (ha : a < 18446744073709551616) : (BitVec.ofInt 64 (a : Int)).toNat = a := by
  rw [BitVec.ofInt_natCast, BitVec.toNat_ofNat]; exact Nat.mod_eq_of_lt (by omega)
theorem and_exp (a : Nat) (ha : a < 18446744073709551616) : bits .and .u64 (a : Int) 2047 = ((a % 2048 : Nat) : Int) := by
  show IntKind.u64.wrap ((BitVec.ofInt 64 (a : Int) &&& BitVec.ofInt 64 2047).toNat : Int) = _
  rw [BitVec.toNat_and, vec_nat64 a ha, show (BitVec.ofInt 64 2047).toNat = 2 ^ 11 - 1 by decide, Nat.and_two_pow_sub_one_eq_mod, IntKind.wrap_u64]
  omega
theorem andnot_sign (F : Nat) (hF : F < 18446744073709551616) : bits .andNot .u64 (F : Int) 9223372036854775808 = ((F % 9223372036854775808 : Nat) : Int) := by
  show IntKind.u64.wrap ((BitVec.ofInt 64 (F : Int) &&& ~~~ BitVec.ofInt 64 9223372036854775808).toNat : Int) = _
  rw [BitVec.toNat_and, vec_nat64 F hF, show (~~~ BitVec.ofInt 64 9223372036854775808).toNat = 2 ^ 63 - 1 by decide, Nat.and_two_pow_sub_one_eq_mod, IntKind.wrap_u64]
  omega
set_option maxRecDepth 100000 in
theorem floats_any (n : Nat) (w : World) (h1 : n < 18446744073709551616) : Calls Tryz.prog 115 #[.int .u64 n] w fun e w' => e = .returned (.bool (bitsOk n)) ∧ w = w' := by
  have e1 := and_exp (n / 4503599627370496) (by omega)
  rw [show ((n / 4503599627370496 : Nat) : Int) = (n : Int) / 4503599627370496 by omega, show ((n / 4503599627370496 % 2048 : Nat) : Int) = (n : Int) / 4503599627370496 % 2048 by omega] at e1
  have hb : bitsOk n = (((n : Int) / 4503599627370496 % 2048 != 2047) && ((n : Int) != 9223372036854775808)) := by
    unfold bitsOk
    rw [Bool.eq_iff_iff]
    simp
  rw [hb]
  have HB := hid e1
  clear hb
  generalize hx : (n : Int) / 4503599627370496 % 2048 = x at *
  clear hx
  by_cases hq : x = 2047
  · subst hq
    go_enter Tryz.func115, Tryz.ntmps115
    go_wp2
    go_ret
    exact ⟨rfl, rfl⟩
  · have hd : (x == 2047) = false := beq_eq_false_iff_ne.2 hq
    have hd2 : (x != 2047) = true := by simp [hq]
    go_enter Tryz.func115, Tryz.ntmps115
    go_wp2
    go_ret
    exact ⟨by simp [hd2], rfl⟩

/-! ### what a float's bits stand for -/
theorem read_fin (n : Nat) (h : n % 9223372036854775808 < 9218868437227405312) : ∃ m p, FloatKind.f64.format.read n = .number (n / 9223372036854775808 % 2 == 1) m p ∧ m < 9007199254740992 ∧ p ≤ 971 := by
  have e : FloatKind.f64.format.read n = (if n % 9223372036854775808 < 4503599627370496 then .number (n / 9223372036854775808 % 2 == 1) (n % 9223372036854775808) (-1074)
      else if n % 9223372036854775808 < 9218868437227405312 then .number (n / 9223372036854775808 % 2 == 1) (4503599627370496 + n % 9223372036854775808 % 4503599627370496) (-1074 + (n % 9223372036854775808 / 4503599627370496 - 1 : Nat))
      else if n % 9223372036854775808 = 9218868437227405312 then .infinity (n / 9223372036854775808 % 2 == 1) else .nan (n / 9223372036854775808 % 2 == 1) (n % 9223372036854775808 - 9218868437227405312)) := rfl
  rw [e]
  by_cases h1 : n % 9223372036854775808 < 4503599627370496
  · rw [if_pos h1]; exact ⟨_, _, rfl, by omega, by omega⟩
  · rw [if_neg h1, if_pos h]; exact ⟨_, _, rfl, by omega, by omega⟩
theorem read_not (n : Nat) (h : ¬ n % 9223372036854775808 < 9218868437227405312) : (n % 9223372036854775808 = 9218868437227405312 ∧ FloatKind.f64.format.read n = .infinity (n / 9223372036854775808 % 2 == 1)) ∨ (n % 9223372036854775808 ≠ 9218868437227405312 ∧ ∃ k, FloatKind.f64.format.read n = .nan (n / 9223372036854775808 % 2 == 1) k) := by
  have e : FloatKind.f64.format.read n = (if n % 9223372036854775808 < 4503599627370496 then .number (n / 9223372036854775808 % 2 == 1) (n % 9223372036854775808) (-1074)
      else if n % 9223372036854775808 < 9218868437227405312 then .number (n / 9223372036854775808 % 2 == 1) (4503599627370496 + n % 9223372036854775808 % 4503599627370496) (-1074 + (n % 9223372036854775808 / 4503599627370496 - 1 : Nat))
      else if n % 9223372036854775808 = 9218868437227405312 then .infinity (n / 9223372036854775808 % 2 == 1) else .nan (n / 9223372036854775808 % 2 == 1) (n % 9223372036854775808 - 9218868437227405312)) := rfl
  rw [e, if_neg (by omega), if_neg h]
  by_cases h1 : n % 9223372036854775808 = 9218868437227405312
  · rw [if_pos h1]; exact .inl ⟨h1, rfl⟩
  · rw [if_neg h1]; exact .inr ⟨h1, _, rfl⟩
theorem read_max : FloatKind.f64.format.read 9218868437227405311 = .number false 9007199254740991 971 := by kernel_rfl
theorem cmp_same (x : Int) : compare x x = .eq := by simp [compare, compareOfLessAndEq]
theorem cmp_le {x y : Int} (h : x ≤ y) : compare x y ≠ .gt := by
  simp only [compare, compareOfLessAndEq]
  split
  · simp
  · split
    · simp
    · omega
/-- Is a float no number? -/
def isNaNb (n : Nat) : Bool := FloatKind.f64.format.order n n != some .eq
def isInfb (n : Nat) : Bool := FloatKind.f64.format.order (n % 9223372036854775808) 9218868437227405311 == some .gt
theorem order_def (a b : Nat) : FloatKind.f64.format.order a b = (FloatKind.f64.format.read a).order (FloatKind.f64.format.read b) := rfl
theorem fin_facts (n : Nat) (h : n % 9223372036854775808 < 9218868437227405312) : isInfb n = false ∧ isNaNb n = false := by
  constructor
  · unfold isInfb
    obtain ⟨m, p, e, hm, hp⟩ := read_fin (n % 9223372036854775808) (by omega)
    rw [order_def, e, read_max, show (n % 9223372036854775808 / 9223372036854775808 % 2 == 1) = false by rw [show n % 9223372036854775808 / 9223372036854775808 = 0 by omega]; rfl]
    show (some (compare (Ieee.signed false m (p - min p 971).toNat) (Ieee.signed false 9007199254740991 (971 - min p 971).toNat)) == some .gt) = false
    rw [show min p 971 = p by omega, show (p - p).toNat = 0 by omega]
    have h2 : Ieee.signed false m 0 ≤ Ieee.signed false 9007199254740991 (971 - p).toNat := by
      show ((m <<< 0 : Nat) : Int) ≤ ((9007199254740991 <<< (971 - p).toNat : Nat) : Int)
      rw [Nat.shiftLeft_eq, Nat.shiftLeft_eq]
      have h3 : 1 ≤ 2 ^ (971 - p).toNat := Nat.one_le_two_pow
      have h4 : 9007199254740991 * 1 ≤ 9007199254740991 * 2 ^ (971 - p).toNat := Nat.mul_le_mul_left _ h3
      have h5 : m * 2 ^ 0 ≤ 9007199254740991 * 2 ^ (971 - p).toNat := Nat.le_trans (by omega) h4
      exact Int.ofNat_le.2 h5
    have h6 := cmp_le h2
    generalize compare (Ieee.signed false m 0) (Ieee.signed false 9007199254740991 (971 - p).toNat) = c at *
    cases c <;> simp_all
  · unfold isNaNb
    obtain ⟨m, p, e, hm, hp⟩ := read_fin n h
    rw [order_def, e]
    generalize (n / 9223372036854775808 % 2 == 1) = s
    show (some (compare (Ieee.signed s m (p - min p p).toNat) (Ieee.signed s m (p - min p p).toNat)) != some .eq) = false
    rw [cmp_same]; rfl
theorem bad_facts (n : Nat) (h : ¬ n % 9223372036854775808 < 9218868437227405312) : isInfb n = true ∨ (isInfb n = false ∧ isNaNb n = true) := by
  unfold isInfb isNaNb
  have hr : ∀ k, k / 9223372036854775808 = 0 → (k / 9223372036854775808 % 2 == 1) = false := fun k hk => by rw [hk]; rfl
  rcases read_not (n % 9223372036854775808) (by omega) with ⟨_, e⟩ | ⟨hne, k, e⟩
  · left
    rw [order_def, e, read_max, hr _ (by omega)]
    rfl
  · right
    refine ⟨by rw [order_def, e]; rfl, ?_⟩
    rcases read_not n h with ⟨h1, _⟩ | ⟨_, j, e2⟩
    · exact absurd h1 (by omega)
    · rw [order_def, e2]; rfl
theorem bits_facts (n : Nat) (_h1 : n < 18446744073709551616) : bitsOk n = (!isInfb n && !isNaNb n && ((n : Int) != 9223372036854775808)) := by
  have hb : bitsOk n = (((n : Int) / 4503599627370496 % 2048 != 2047) && ((n : Int) != 9223372036854775808)) := by
    unfold bitsOk
    rw [Bool.eq_iff_iff]
    simp
  rw [hb]
  congr 1
  by_cases h : n % 9223372036854775808 < 9218868437227405312
  · obtain ⟨h2, h3⟩ := fin_facts n h
    rw [h2, h3]
    have : (n : Int) / 4503599627370496 % 2048 ≠ 2047 := by omega
    simp [this]
  · have h4 : (n : Int) / 4503599627370496 % 2048 = 2047 := by omega
    rw [h4]
    rcases bad_facts n h with h2 | ⟨h2, h3⟩
    · rw [h2]; rfl
    · rw [h2, h3]; rfl
theorem run_frombits (n : Nat) (W : World) : (callFunc 93 #[.int .u64 (n : Int)]).run Tryz.prog W = .ok (.value (.float .f64 n)) W := by
  rw [run_callFunc_extern (e := Extern.MathFloatBits.float64frombits) Tryz.func93 (by kernel_rfl) (by kernel_rfl) (by kernel_rfl) (by kernel_rfl)]
  rfl
theorem run_bits64 (n : Nat) (W : World) : (callFunc 176 #[.float .f64 n]).run Tryz.prog W = .ok (.value (.int .u64 (n : Int))) W := by
  rw [run_callFunc_extern (e := Extern.MathFloatBits.float64bits) Tryz.func176 (by kernel_rfl) (by kernel_rfl) (by kernel_rfl) (by kernel_rfl)]
  rfl
set_option maxRecDepth 100000 in
theorem abs_any (n : Nat) (w : World) (h1 : n < 18446744073709551616) : Calls Tryz.prog 163 #[.float .f64 n] w fun e w' => e = .returned (.float .f64 (n % 9223372036854775808)) ∧ w = w' := by
  have r1 := run_bits64 n
  have r2 := run_frombits (n % 9223372036854775808)
  have e1 := andnot_sign n h1
  have ec : ((n % 9223372036854775808 : Nat) : Int) = (n : Int) % 9223372036854775808 := by omega
  rw [ec] at r2 e1
  clear ec
  go_enter Tryz.func163, Tryz.ntmps163
  go_wp2
  go_ret
  exact ⟨rfl, rfl⟩
set_option maxRecDepth 100000 in
theorem isInf_any (n : Nat) (w : World) (h1 : n < 18446744073709551616) : Calls Tryz.prog 144 #[.float .f64 n, .int .i64 0] w fun e w' => e = .returned (.bool (isInfb n)) ∧ w = w' := by
  have C := hid (fun W => abs_any n W h1)
  go_enter Tryz.func144, Tryz.ntmps144
  go_wp2_with (go_at_call 163; (with_reducible refine (C.out _).mono ?_); rintro e w2 ⟨rfl, rfl⟩)
  go_ret
  exact ⟨rfl, rfl⟩
set_option maxRecDepth 100000 in
theorem isNaNf_any (n : Nat) (w : World) : Calls Tryz.prog 145 #[.float .f64 n] w fun e w' => e = .returned (.bool (isNaNb n)) ∧ w = w' := by
  go_enter Tryz.func145, Tryz.ntmps145
  go_wp2
  go_ret
  exact ⟨rfl, rfl⟩
set_option maxRecDepth 100000 in
theorem areBits_any (n : Nat) (w : World) (h1 : n < 18446744073709551616) : Calls Tryz.prog 123 #[.int .u64 n] w fun e w' => e = .returned (.bool (bitsOk n)) ∧ w = w' := by
  have r2 := run_frombits n
  have C1 := hid (fun W => isInf_any n W h1)
  have C2 := hid (fun W => isNaNf_any n W)
  rw [bits_facts n h1]
  clear h1
  generalize isInfb n = bi at *
  generalize isNaNb n = bn at *
  cases bi <;> cases bn
  all_goals
    go_enter Tryz.func123, Tryz.ntmps123
    go_wp2_with (first
      | (go_at_call 144; (with_reducible refine (C1.out _).mono ?_); rintro e w2 ⟨rfl, rfl⟩)
      | (go_at_call 145; (with_reducible refine (C2.out _).mono ?_); rintro e w2 ⟨rfl, rfl⟩))
    go_ret
    exact ⟨by simp, rfl⟩
end Go.Proofs.YtkapejcbmonfkaaGreatDoor

namespace Go.Proofs.YtkapejcbmonfkaaGreatDoor
open Go.RowKit

set_option maxRecDepth 100000 in
set_option maxHeartbeats 2000000 in
theorem countR_any (d : Nat) : ∀ (t : Tm) (p : Option Addr) (cap : Nat) (n : Nat) (w : World), nodes t ≤ d → TmAt w t p → n ≤ 4000 →
    Calls Tryz.prog 98 #[t.val p cap, .int .i64 (n : Int)] w fun e w' => e = .returned (.int .i64 (capped (n + nodes t) 4001)) ∧ Below w.heap.size w w' := by
  induction d with
  | zero => intro t p cap n w h; have := nodes_pos t; omega
  | succ d ih =>
    intro t p cap n w hd hT hm
    obtain ⟨W0, hW0⟩ : ∃ W0, W0 = w.alloc (tobj t p cap) := ⟨_, rfl⟩
    have hB := hid (show Below w.heap.size w W0 by rw [hW0]; exact (Below.refl w.heap.size w).alloc (Nat.le_refl _) (tobj t p cap))
    have HS := hid (show W0.heap[w.heap.size]? = some (tobj t p cap) by rw [hW0]; exact heap_alloc_new w (tobj t p cap))
    unfold tobj at hW0
    unfold Tm.val at ih ⊢
    have IH := hid ih
    have HT := hid hT
    have hlen := hT.len
    unfold maxLen at hlen
    have HNE := hid (fun k (h : k < t.args.length) => (show nodes t.args[k] ≤ d by have := nodes_lt h; omega))
    have HN := hid (nodes_args t)
    clear ih hT
    go_enter Tryz.func98, Tryz.ntmps98
    go_wp2_with fail
    rw [← hW0]
    clear hW0
    go_loopw [1, 5] (fun c i wr => ∃ (k m : Nat), k ≤ t.args.length ∧ i = .int .i64 (k : Int) ∧ c = .int .i64 (m : Int) ∧ m ≤ 4001 ∧ Hid ((m : Int) = capped (n + 1 + nodesL (t.args.take k)) 4001) ∧ Hid (Below w.heap.size w wr) ∧ Hid (wr.heap[w.heap.size]? = some (tobj t p cap))) (fun _ i _ => t.args.length - (intOf i).toNat)
    case atStart => exact ⟨0, n + 1, by omega, rfl, by simp, by omega, hid (by simp [nodesL, capped]; omega), hB, HS⟩
    case round =>
      clear hB HS
      obtain ⟨k, m, hk, rfl, rfl, hm1, hc, hBr, hSr⟩ := hrel
      have x5 : wr.cell? ⟨w.heap.size, 5, none⟩ = some (.slice p t.args.length cap) := (six_of hSr.out).c5
      by_cases hlt : k < t.args.length
      · by_cases hcm : m ≤ 4000
        · obtain ⟨b, o, rfl, q, cq, hs, ht⟩ := (HT.out.keep hBr.out).get k hlt
          obtain ⟨y0, y1, y2, y3, y4, y5⟩ := hs
          have HTK := hid ht
          have HSUM := hid (nodesL_take t.args k hlt)
          have HNK := hid (HNE.out k hlt)
          clear ht
          generalize t.args[k] = u at *
          have HC := hid (IH.out u q cq m wr HNK.out HTK.out hcm)
          obtain ⟨z, hz⟩ : ∃ z : Nat, (z : Int) = capped (m + nodes u) 4001 := ⟨(capped (m + nodes u) 4001).toNat, by unfold capped; split <;> omega⟩
          rw [← hz] at HC
          have hz1 : z ≤ 4001 := by unfold capped at hz; split at hz <;> omega
          have HZ := hid (show (z : Int) = capped (n + 1 + nodesL (t.args.take (k + 1))) 4001 by
            have h1 := hc.out
            have h2 := HSUM.out
            rw [hz, h2]
            unfold capped at h1 ⊢
            split at h1 <;> split <;> split <;> omega)
          clear hz
          go_wp2_with (go_at_call 98; (with_reducible refine HC.out.mono ?_); rintro e w2 ⟨rfl, hb2⟩; have B2 := hid (hBr.out.trans (hb2.mono hBr.out.size)); have S2 := hid (hb2.block _ (lt_of_block hSr.out) |>.trans hSr.out); clear hb2)
          go_roundw
          case rel => exact ⟨k + 1, z, by omega, by go_num, rfl, hz1, HZ, B2, S2⟩
          case measure => simp [intOf]; omega
        · obtain rfl : m = 4001 := by omega
          go_wp2_with fail
          go_ret
          refine ⟨?_, hBr.out⟩
          have h1 := hc.out
          have h2 := nodesL_take_le t.args k
          have h3 := HN.out
          have h4 : capped (n + nodes t) 4001 = 4001 := by
            unfold capped at h1 ⊢
            split at h1 <;> split <;> omega
          rw [h4]
          rfl
      · obtain rfl : k = t.args.length := by omega
        go_wp2_with fail
        go_ret
        refine ⟨?_, hBr.out⟩
        have h1 := hc.out
        have h3 := HN.out
        rw [List.take_length] at h1
        show Ending.returned (.int .i64 (m : Int)) = _
        rw [h1, h3]
        congr 3
        omega
set_option maxRecDepth 100000 in
theorem nodesR_any (t : Tm) (p : Option Addr) (cap : Nat) (w : World) (hT : TmAt w t p) :
    Calls Tryz.prog 72 #[t.val p cap] w fun e w' => e = .returned (.int .i64 (capped (nodes t) 4001)) ∧ Below w.heap.size w w' := by
  have HT := hid (hT.keep ((Below.refl w.heap.size w).alloc (Nat.le_refl _) (.cells #[.int .i64 t.kind, .string t.name, .string t.num, .int .u64 t.bits, .int .i64 t.var, .slice p t.args.length cap] 25)))
  have C := fun W h => countR_any (nodes t) t p cap 0 W (Nat.le_refl _) h (by omega)
  obtain ⟨z, hz⟩ : ∃ z : Nat, (z : Int) = capped (nodes t) 4001 := ⟨(capped (nodes t) 4001).toNat, by unfold capped; split <;> omega⟩
  rw [Nat.zero_add, ← hz, show ((0 : Nat) : Int) = 0 from rfl] at C
  rw [← hz]
  have hz1 : z ≤ 4000 ∨ z = 4001 := by unfold capped at hz; split at hz <;> omega
  unfold Tm.val at C ⊢
  have HC := hid C
  clear C hT hz
  rcases hz1 with hz1 | rfl
  all_goals
    go_enter Tryz.func72, Tryz.ntmps72
    go_wp2_with (go_at_call 98; (with_reducible refine (HC.out _ HT.out).mono ?_); rintro e w2 ⟨rfl, hb2⟩; have B2 := hid hb2; clear hb2)
    go_ret
    exact ⟨rfl, ((Below.refl w.heap.size w).alloc (Nat.le_refl _) _).trans (B2.out.mono (by simp))⟩
/-- Contracts of what the document asks of names, texts of integers and bits, for the nodes of a kind, from a world on. -/
structure OracleR (vn vi : ByteArray → Bool) (vb : Int → Bool) (D : Tm → Prop) (w : World) : Prop where
  name : ∀ W, Below w.heap.size w W → ∀ t, D t → Calls Tryz.prog 113 #[.string t.name] W fun e w' => e = .returned (.bool (vn t.name)) ∧ W = w'
  num : ∀ W, Below w.heap.size w W → ∀ t, D t → t.kind = 3 → Calls Tryz.prog 114 #[.string t.num] W fun e w' => e = .returned (.bool (vi t.num)) ∧ Below W.heap.size W w'
  bits : ∀ W, Below w.heap.size w W → ∀ t, D t → t.kind = 4 → Calls Tryz.prog 115 #[.int .u64 t.bits] W fun e w' => e = .returned (.bool (vb t.bits)) ∧ W = w'
theorem OracleR.keep {vn vi : ByteArray → Bool} {vb : Int → Bool} {D : Tm → Prop} {w w1 : World} (h : OracleR vn vi vb D w) (hb : Below w.heap.size w w1) : OracleR vn vi vb D w1 :=
  ⟨fun W hW => h.name W (hb.trans (hW.mono hb.size)), fun W hW => h.num W (hb.trans (hW.mono hb.size)), fun W hW => h.bits W (hb.trans (hW.mono hb.size))⟩
end Go.Proofs.YtkapejcbmonfkaaGreatDoor
