/- Walk of the document's answer: the number of the highest bits; Float. No condition but those that each theorem names. Walk of the document's answer: Float, item by item. No condition but those that each theorem names. -/
import Derived.Test.YtldafoojkimdeaaDoorRefa
import Derived.Test.YtldafoojkimdeaaDoorR23m
import Derived.Test.YtldafoojkimdeaaDoorW67m
import Derived.Test.YtldafoojkimdeaaDoorRefb
namespace Lm

/-- The number of the i highest bits of s. -/
def tv (B : List Nat) (s : Nat) : Nat → Nat
  | 0 => 0
  | i + 1 => 2 * tv B s i + if i < s then dg B (s - 1 - i) else 0
theorem tv_lt {B : List Nat} (h : B1 B) (s i : Nat) : tv B s i < 2 ^ i := by
  induction i with
  | zero => simp [tv]
  | succ i ih =>
    have hd := h.dg (s - 1 - i)
    unfold tv
    rw [Nat.pow_succ]
    split <;> omega
theorem tv_top {B : List Nat} (i : Nat) (h : i ≤ B.length) : tv B B.length i = bv (B.drop (B.length - i)) := by
  induction i with
  | zero => rw [Nat.sub_zero, List.drop_of_length_le (Nat.le_refl _)]; rfl
  | succ i ih =>
    have h1 := ih (by omega)
    have h2 := bv_drop_dg B (B.length - (i + 1))
    rw [show B.length - (i + 1) + 1 = B.length - i by omega, ← h1] at h2
    rw [h2]
    show 2 * tv B B.length i + _ = _
    rw [if_pos (by omega), show B.length - 1 - i = B.length - (i + 1) by omega]
    omega
theorem tv_past {B : List Nat} (j : Nat) : tv B B.length (B.length + j) = bv B * 2 ^ j := by
  induction j with
  | zero => rw [Nat.add_zero, tv_top _ (Nat.le_refl _), Nat.sub_self, List.drop_zero, Nat.pow_zero, Nat.mul_one]
  | succ j ih =>
    show 2 * tv B B.length (B.length + j) + _ = _
    rw [ih, if_neg (show ¬ B.length.add j < B.length from Nat.not_lt.2 (Nat.le_add_right _ _)), Nat.pow_succ, Nat.add_zero]
    grind
theorem bv_drop_div {B : List Nat} (h : B1 B) (k : Nat) : bv (B.drop k) = bv B / 2 ^ k := by
  have h1 := bv_split_any B k
  have h2 := bv_lt (h.take k)
  have h3 : bv (B.take k) < 2 ^ k := Nat.lt_of_lt_of_le h2 (Nat.pow_le_pow_right (by decide) (by rw [List.length_take]; omega))
  rw [h1, Nat.add_mul_div_left _ _ (Nat.two_pow_pos k), Nat.div_eq_of_lt h3, Nat.zero_add]
theorem bv_take_mod {B : List Nat} (h : B1 B) (k : Nat) : bv (B.take k) = bv B % 2 ^ k := by
  have h1 := bv_split_any B k
  have h2 := bv_lt (h.take k)
  have h3 : bv (B.take k) < 2 ^ k := Nat.lt_of_lt_of_le h2 (Nat.pow_le_pow_right (by decide) (by rw [List.length_take]; omega))
  rw [h1, Nat.add_mul_mod_self_left, Nat.mod_eq_of_lt h3]
/-- The 53 highest bits are half the 54 highest. -/
theorem tv_53 {B : List Nat} (h : B1 B) (s : Nat) (hs : B.length = s) : tv B s 53 = top54 (bv B) s / 2 := by
  subst hs
  unfold top54
  by_cases h53 : 53 < B.length
  · rw [if_pos h53, tv_top 53 (by omega), bv_drop_div h, Nat.div_div_eq_div_mul, show B.length - 53 = B.length - 54 + 1 by omega, Nat.pow_succ]
  · obtain ⟨j, hj⟩ : ∃ j, B.length + j = 53 := ⟨53 - B.length, by omega⟩
    rw [if_neg h53, show tv B B.length 53 = tv B B.length (B.length + j) by rw [hj], tv_past, show 54 - B.length = j + 1 by omega, Nat.pow_succ, ← Nat.mul_assoc, Nat.mul_div_cancel _ (by decide)]
theorem tv_half {B : List Nat} (h : B1 B) (s : Nat) (hs : B.length = s) (h53 : 53 < s) : dg B (s - 54) = top54 (bv B) s % 2 := by
  subst hs
  unfold top54
  have h1 := bv_drop_dg B (B.length - 54)
  have h2 := h.dg (B.length - 54)
  rw [if_pos h53, ← bv_drop_div h, h1]
  omega
theorem tv_even {x s : Nat} (h53 : ¬ 53 < s) : top54 x s % 2 = 0 := by
  unfold top54
  rw [if_neg h53, show 54 - s = (53 - s) + 1 by omega, Nat.pow_succ, ← Nat.mul_assoc]
  exact Nat.mul_mod_left _ _
end Lm
namespace Go.Proofs.YtldafoojkimdeaaDoor
open Go.RowKit Lm

set_option maxRecDepth 100000 in
set_option maxHeartbeats 4000000 in
theorem numberR (ao : Option Addr) (s cap : Nat) (B : List Nat) (w : World) (h : Ri w ao s cap B) (bB : B1 B) :
    Calls Tryd.prog 109 #[.slice ao s cap, .int .i64 ((s : Int) - 1), .int .i64 53] w fun e w' => e = .returned (.int .u64 ((tv B s 53 : Nat) : Int)) ∧ w' = w := by
  have HS := hid h.most
  go_enter Tryd.func109, Tryd.ntmps109
  go_wp2_with fail
  go_loop [7, 8] (fun n i => ∃ (k t : Nat), k ≤ 53 ∧ i = .int .i64 (k : Int) ∧ n = .int .u64 (t : Int) ∧ Hid (t = tv B s k)) (fun _ i => 53 - (intOf i).toNat)
  case atStart => exact ⟨0, 0, by omega, rfl, rfl, hid rfl⟩
  case round =>
    obtain ⟨k, t, hk, rfl, rfl, ht⟩ := hrel
    by_cases hgo : k < 53
    · have hlt : 2 * t + 1 < 18446744073709551616 := by
        have h1 := tv_lt bB s k
        have h2 : 2 ^ k ≤ 2 ^ 52 := Nat.pow_le_pow_right (by decide) (by omega)
        rw [ht.out]; omega
      by_cases hks : k < s
      · obtain ⟨m, hm⟩ : ∃ m, m = s - 1 - k := ⟨_, rfl⟩
        have hd := bB.dg m
        have hN : Hid (2 * t + dg B m = tv B s (k + 1)) := hid (by rw [ht.out, hm]; show _ = 2 * tv B s k + _; rw [if_pos hks])
        have hm2 : (s : Int) - 1 - (k : Int) = (m : Int) := by omega
        have hmr : m ≤ 4294967296 := by have := HS.out; omega
        clear hm
        obtain ⟨d, hD⟩ : ∃ d, d = dg B m := ⟨_, rfl⟩
        have HD := hid hD
        rw [← hD] at hd hN
        clear hD
        go_wp2_with (go_at_call 105; refine (bitR_q _ _ _ B m _ h).mono ?_; rintro e w5 ⟨rfl, rfl⟩; rw [← HD.out])
        go_round
        case rel => exact ⟨k + 1, 2 * t + d, by omega, by go_num, by go_num, hN⟩
        case measure => simp [intOf]; omega
      · have hN : Hid (2 * t = tv B s (k + 1)) := hid (by rw [ht.out]; show _ = 2 * tv B s k + _; rw [if_neg hks, Nat.add_zero])
        go_wp2_with (go_at_call 105; refine (bitR_neg _ _ _ _ _ (by omega)).mono ?_; rintro e w5 ⟨rfl, rfl⟩)
        go_round
        case rel => exact ⟨k + 1, 2 * t, by omega, by go_num, by go_num, hN⟩
        case measure => simp [intOf]; omega
    · have e53 : k = 53 := by omega
      subst e53
      have HT := ht
      go_wp2
      go_ret
      exact ⟨by rw [← HT.out]; rfl, rfl⟩
end Go.Proofs.YtldafoojkimdeaaDoor

namespace Lm
theorem sigf_even {x s : Nat} (hs : bl x = s) (h : top54 x s % 2 = 0) : sigf x = top54 x s / 2 := by
  unfold sigf sig53
  rw [hs, if_neg (by omega), Nat.add_zero]
theorem sigf_up {x s : Nat} (hs : bl x = s) (h : top54 x s % 2 = 1) (h2 : lost54 x s = true ∨ top54 x s / 2 % 2 = 1) : sigf x = top54 x s / 2 + 1 := by
  unfold sigf sig53
  rw [hs, if_pos ⟨h, h2⟩]
theorem sigf_down {x s : Nat} (hs : bl x = s) (h1 : lost54 x s = false) (h2 : top54 x s / 2 % 2 = 0) : sigf x = top54 x s / 2 := by
  unfold sigf sig53
  rw [hs, if_neg (by rintro ⟨_, h | h⟩ <;> simp_all), Nat.add_zero]
end Lm
namespace Go.Proofs.YtldafoojkimdeaaDoor
open Go.RowKit Lm

/-- Whether the nearest float of an integer is finite. -/
def fin (v : Int) : Bool := decide (bl v.natAbs ≤ 1024 ∧ fbits v.natAbs < 9218868437227405312)
/-- The bits of the nearest float, nought where it is not finite. -/
def fout (v : Int) : Nat := if fin v then ibits v else 0
noncomputable def tail62 (n : Nat) : Code := seqDrop n (Tryd.f62.body.getD .skip)
noncomputable def head62 (n : Nat) : Code := seqHead (tail62 n)
noncomputable def Q62 (w : World) (v : Int) : Exit → Act → World → Prop := bodyPost Tryd.prog Tryd.f62 fun e w' => e = .returned (.tuple #[.int .u64 ((fout v : Nat) : Int), .bool (fin v)]) ∧ Below w.heap.size w w'

set_option maxRecDepth 100000 in
set_option maxHeartbeats 4000000 in
theorem FL_7 {w wr : World} {v : Int} {nx : Bool} {xo : Option Addr} {xl xc g s m ex : Nat} {u0 u2 u3 u7 u8 u9 u10 u11 u12 u13 u14 u15 u16 u17 u18 u19 u20 u21 u22 u23 u24 u25 u26 u27 u28 u29 u30 u31 u32 u33 u34 u35 u36 u37 u38 u39 u40 u41 u42 u43 u44 u45 u46 u47 u48 u49 u50 u51 u52 u53 u54 u55 u56 u57 u58 u59 u60 u61 u62 u63 u64 u65 u66 u67 u68 u69 u70 : Value}
    (hs : s ≤ 1000000) (h1 : 4503599627370496 ≤ m) (h2 : m < 9007199254740992) (hx1 : 1 ≤ ex) (hx2 : ex ≤ 2000000)
    (hf : Hid (fbits v.natAbs + 4503599627370496 = ex * 4503599627370496 + m)) (hbl : Hid (bl v.natAbs = s)) (hsg : Hid (nx = decide (v < 0)))
    (px : Pr wr g 28 (.bool nx) (.slice xo xl xc)) (hb : Below w.heap.size w wr) :
    Code.wp Tryd.prog (tail62 7) (Q62 w v) ⟨#[u0, .pointer (some ⟨g, 0, none⟩), u2, u3, .int .i64 (s : Int), .int .u64 (m : Int), .int .u64 (ex : Int), u7, u8, u9, u10, u11, u12, u13, u14, u15, u16, u17, u18, u19, u20, u21, u22, u23, u24, u25, u26, u27, u28, u29, u30, u31, u32, u33, u34, u35, u36, u37, u38, u39, u40, u41, u42, u43, u44, u45, u46, u47, u48, u49, u50, u51, u52, u53, u54, u55, u56, u57, u58, u59, u60, u61, u62, u63, u64, u65, u66, u67, u68, u69, u70], []⟩ wr := by
  obtain ⟨k0, k1, _, _⟩ := two_cells px
  conv => arg 2; whnf
  unfold Q62
  by_cases c1 : 1024 < s
  · have e1 : fin v = false := decide_eq_false (fun h => by rw [hbl.out] at h; omega)
    have e2 : fout v = 0 := by unfold fout; rw [e1]; rfl
    rw [e1, e2]
    clear e1 e2
    go_wp2
    go_ret2
    exact ⟨rfl, hb⟩
  · by_cases c2 : 2047 ≤ ex
    · have e1 : fin v = false := decide_eq_false (fun h => by have := hf.out; omega)
      have e2 : fout v = 0 := by unfold fout; rw [e1]; rfl
      rw [e1, e2]
      clear e1 e2
      go_wp2
      go_ret2
      exact ⟨rfl, hb⟩
    · have e1 : fin v = true := decide_eq_true ⟨by rw [hbl.out]; omega, by have := hf.out; omega⟩
      have e2 : fout v = ibits v := by unfold fout; rw [e1]; rfl
      rw [e1, e2]
      clear e1 e2
      cases nx with
      | false =>
        have e3 : ¬ v < 0 := by have := hsg.out; simpa using this.symm
        have E := hid (show (ex : Int) * 4503599627370496 + (m : Int) - 4503599627370496 = ((ibits v : Nat) : Int) by unfold ibits; rw [if_neg e3]; have := hf.out; omega)
        clear e3
        go_wp2
        go_ret2
        exact ⟨by rw [← E.out]; rfl, hb⟩
      | true =>
        have e3 : v < 0 := by have := hsg.out; simpa using this.symm
        have E := hid (show (ex : Int) * 4503599627370496 + (m : Int) - 4503599627370496 + 9223372036854775808 = ((ibits v : Nat) : Int) by unfold ibits; rw [if_pos e3]; have := hf.out; omega)
        clear e3
        go_wp2
        go_ret2
        exact ⟨by rw [← E.out]; rfl, hb⟩

set_option maxRecDepth 100000 in
set_option maxHeartbeats 4000000 in
theorem FL_6 {w wr : World} {v : Int} {nx : Bool} {xo : Option Addr} {xl xc g s m : Nat} {u0 u2 u3 u7 u8 u9 u10 u11 u12 u13 u14 u15 u16 u17 u18 u19 u20 u21 u22 u23 u24 u25 u26 u27 u28 u29 u30 u31 u32 u33 u34 u35 u36 u37 u38 u39 u40 u41 u42 u43 u44 u45 u46 u47 u48 u49 u50 u51 u52 u53 u54 u55 u56 u57 u58 u59 u60 u61 u62 u63 u64 u65 u66 u67 u68 u69 u70 : Value}
    (hs : s ≤ 1000000) (h1 : 4503599627370496 ≤ m) (h2 : m ≤ 9007199254740992)
    (hf : Hid (fbits v.natAbs + 4503599627370496 = (s + 1022) * 4503599627370496 + m)) (hbl : Hid (bl v.natAbs = s)) (hsg : Hid (nx = decide (v < 0)))
    (px : Pr wr g 28 (.bool nx) (.slice xo xl xc)) (hb : Below w.heap.size w wr) :
    Code.wp Tryd.prog (tail62 6) (Q62 w v) ⟨#[u0, .pointer (some ⟨g, 0, none⟩), u2, u3, .int .i64 (s : Int), .int .u64 (m : Int), .int .u64 ((s : Int) - 1 + 1023), u7, u8, u9, u10, u11, u12, u13, u14, u15, u16, u17, u18, u19, u20, u21, u22, u23, u24, u25, u26, u27, u28, u29, u30, u31, u32, u33, u34, u35, u36, u37, u38, u39, u40, u41, u42, u43, u44, u45, u46, u47, u48, u49, u50, u51, u52, u53, u54, u55, u56, u57, u58, u59, u60, u61, u62, u63, u64, u65, u66, u67, u68, u69, u70], []⟩ wr := by
  show Code.wp Tryd.prog (Code.seq (head62 6) (tail62 7)) _ _ _
  conv => arg 2; arg 1; whnf
  by_cases c : m = 9007199254740992
  · have hc : ((m : Int) == 9007199254740992) = true := by simp; omega
    have hf2 : Hid (fbits v.natAbs + 4503599627370496 = (s + 1023) * 4503599627370496 + 4503599627370496) := hid (by rw [hf.out, c]; omega)
    go_wp2
    rw [show (s : Int) - 1 + 1023 + 1 = ((s + 1023 : Nat) : Int) by omega]
    exact FL_7 (m := 4503599627370496) hs (by omega) (by omega) (by omega) (by omega) hf2 hbl hsg px hb
  · have hc : ((m : Int) == 9007199254740992) = false := by simp; omega
    go_wp2
    rw [show (s : Int) - 1 + 1023 = ((s + 1022 : Nat) : Int) by omega]
    exact FL_7 hs h1 (by omega) (by omega) (by omega) hf hbl hsg px hb

set_option maxRecDepth 100000 in
set_option maxHeartbeats 4000000 in
theorem FL_5 {w wr : World} {v : Int} {nx : Bool} {xo : Option Addr} {xc g s M : Nat} {B : List Nat} {u0 u2 u3 u7 u8 u9 u10 u11 u12 u13 u14 u15 u16 u17 u18 u19 u20 u21 u22 u23 u24 u25 u26 u27 u28 u29 u30 u31 u32 u33 u34 u35 u36 u37 u38 u39 u40 u41 u42 u43 u44 u45 u46 u47 u48 u49 u50 u51 u52 u53 u54 u55 u56 u57 u58 u59 u60 u61 u62 u63 u64 u65 u66 u67 u68 u69 u70 : Value}
    (hs : s ≤ 1000000) (h0 : 0 < s) (rB : Ri wr xo s xc B) (bB : B1 B) (hM : Hid (M = top54 (bv B) s / 2))
    (hv : Hid (v.natAbs = bv B)) (hbl : Hid (bl v.natAbs = s)) (hsg : Hid (nx = decide (v < 0)))
    (px : Pr wr g 28 (.bool nx) (.slice xo s xc)) (hb : Below w.heap.size w wr) :
    Code.wp Tryd.prog (tail62 5) (Q62 w v) ⟨#[u0, .pointer (some ⟨g, 0, none⟩), u2, u3, .int .i64 (s : Int), .int .u64 (M : Int), .int .u64 ((s : Int) - 1 + 1023), u7, u8, u9, u10, u11, u12, u13, u14, u15, u16, u17, u18, u19, u20, u21, u22, u23, u24, u25, u26, u27, u28, u29, u30, u31, u32, u33, u34, u35, u36, u37, u38, u39, u40, u41, u42, u43, u44, u45, u46, u47, u48, u49, u50, u51, u52, u53, u54, u55, u56, u57, u58, u59, u60, u61, u62, u63, u64, u65, u66, u67, u68, u69, u70], []⟩ wr := by
  obtain ⟨k0, k1, _, _⟩ := two_cells px
  have hbx : Hid (bl (bv B) = s) := hid (by rw [← hv.out]; exact hbl.out)
  have hne : Hid (bv B ≠ 0) := hid (fun e => by have := hbx.out; rw [e, (by have := (bl_le 0 0).2 (by simp); omega : bl 0 = 0)] at this; omega)
  have hr1 := top54_range hne.out
  rw [hbx.out] at hr1
  have hM1 : 4503599627370496 ≤ M := by rw [hM.out]; omega
  have hM2 : M < 9007199254740992 := by rw [hM.out]; omega
  clear hr1
  have key : ∀ m, sigf (bv B) = m → Hid (fbits v.natAbs + 4503599627370496 = (s + 1022) * 4503599627370496 + m) := fun m e => hid (by rw [hv.out, fbits_eq hne.out, hbx.out, e]; omega)
  have KEY := hid key
  clear key
  have hrm := hid rB.most
  have HSZ := hid rB.size
  show Code.wp Tryd.prog (Code.seq (head62 5) (tail62 6)) _ _ _
  conv => arg 2; arg 1; whnf
  by_cases c53 : s < 54
  · have K := KEY.out M (by rw [sigf_even hbx.out (tv_even (by omega)), hM.out])
    go_wp2_with (go_at_call 105; refine (bitR_neg _ _ _ _ _ (by omega)).mono ?_; rintro e w5 ⟨rfl, rfl⟩)
    exact FL_6 hs hM1 (by omega) K hbl hsg px hb
  · obtain ⟨j, hj⟩ : ∃ j, s = 54 + j := ⟨s - 54, by omega⟩
    have hj2 : (s : Int) - 54 = (j : Int) := by omega
    have hhalf := tv_half bB s HSZ.out (by omega)
    rw [show s - 54 = j by omega] at hhalf
    have hd := bB.dg j
    have hl54 : lost54 (bv B) s = decide (bv (B.take j) ≠ 0) := by
      unfold lost54
      rw [bv_take_mod bB, show s - 54 = j by omega, decide_eq_true (show 53 < s by omega), Bool.true_and]
    have hlost : (bv (B.take j) ≠ 0 ↔ 0 < (tl (B.take j)).length) := by
      constructor
      · intro h
        rcases Nat.eq_zero_or_pos (tl (B.take j)).length with h1 | h1
        · exact absurd (by rw [← tl_bv, List.eq_nil_of_length_eq_zero h1]; rfl) h
        · exact h1
      · intro h h1
        have := btop_zero (tl_top (B.take j)) (by rw [tl_bv]; exact h1)
        rw [this] at h; simp at h
    obtain ⟨d, hD⟩ : ∃ d, d = dg B j := ⟨_, rfl⟩
    rw [← hD] at hhalf hd
    have HD := hid hD
    clear hD
    have hjs : j ≤ s := by omega
    have hs54 : 54 ≤ s := by omega
    have hg1 : 0 < j → (54 : Int) < (s : Int) := fun h => by omega
    have hg2 : ¬ 0 < j → ¬ (54 : Int) < (s : Int) := fun h => by omega
    have HG1 := hid hg1
    have HG2 := hid hg2
    clear hj hg1 hg2
    by_cases hz : d = 0
    · have K := KEY.out M (by rw [sigf_even hbx.out (by omega), hM.out])
      have hz' : ((d : Int) == 1) = false := by simp; omega
      clear hhalf hl54 hlost hz hd
      go_wp2_with (go_at_call 105; refine (bitR_q _ _ _ B j _ rB).mono ?_; rintro e w5 ⟨rfl, rfl⟩; rw [← HD.out])
      exact FL_6 hs hM1 (by omega) K hbl hsg px hb
    · have hz' : ((d : Int) == 1) = true := by simp; omega
      have KU : lost54 (bv B) s = true ∨ M % 2 = 1 → Hid (fbits v.natAbs + 4503599627370496 = (s + 1022) * 4503599627370496 + (M + 1)) := fun h => KEY.out (M + 1) (by rw [sigf_up hbx.out (by omega) (by rw [← hM.out]; exact h), hM.out])
      have KD : lost54 (bv B) s = false → M % 2 = 0 → Hid (fbits v.natAbs + 4503599627370496 = (s + 1022) * 4503599627370496 + M) := fun h h' => KEY.out M (by rw [sigf_down hbx.out h (by rw [← hM.out]; exact h'), hM.out])
      clear hhalf hz hd
      by_cases hl : 0 < (tl (B.take j)).length
      · have hj0 : 0 < j := by
          rcases Nat.eq_zero_or_pos j with e | e
          · rw [e] at hl; simp [tl] at hl
          · exact e
        have K := KU (.inl (by rw [hl54]; exact decide_eq_true (hlost.2 hl)))
        have rT := rB.take hjs
        have hcc := rB.room
        have hgg := HG1.out hj0
        clear hl54 hlost KU KD
        go_wp2_with (first
          | (go_at_call 105; refine (bitR_q _ _ _ B j _ rB).mono ?_; rintro e w5 ⟨rfl, rfl⟩; rw [← HD.out])
          | (go_at_call 98; refine (cutR _ _ _ (B.take j) _ rT).mono ?_; rintro e w' ⟨rfl, rfl⟩))
        rw [show (M : Int) + 1 = ((M + 1 : Nat) : Int) by omega]
        exact FL_6 hs (by omega) (by omega) K hbl hsg px hb
      · have hlf : lost54 (bv B) s = false := by rw [hl54]; exact decide_eq_false (fun h => hl (hlost.1 h))
        have rT := rB.take hjs
        have hcc := rB.room
        clear hl54 hlost
        by_cases ho : M % 2 = 1
        · have K := KU (.inr ho)
          have ho' : ((M : Int) % 2 == 1) = true := by simp; omega
          clear ho
          clear KU KD hlf
          by_cases hj0 : 0 < j
          · have hgg := HG1.out hj0
            go_wp2_with (first
              | (go_at_call 105; refine (bitR_q _ _ _ B j _ rB).mono ?_; rintro e w5 ⟨rfl, rfl⟩; rw [← HD.out])
              | (go_at_call 98; refine (cutR _ _ _ (B.take j) _ rT).mono ?_; rintro e w' ⟨rfl, rfl⟩))
            rw [show (M : Int) + 1 = ((M + 1 : Nat) : Int) by omega]
            exact FL_6 hs (by omega) (by omega) K hbl hsg px hb
          · have hgg := HG2.out hj0
            go_wp2_with (go_at_call 105; refine (bitR_q _ _ _ B j _ rB).mono ?_; rintro e w5 ⟨rfl, rfl⟩; rw [← HD.out])
            rw [show (M : Int) + 1 = ((M + 1 : Nat) : Int) by omega]
            exact FL_6 hs (by omega) (by omega) K hbl hsg px hb
        · have K := KD hlf (by omega)
          have ho' : ((M : Int) % 2 == 1) = false := by simp; omega
          clear ho
          clear KU KD hlf
          by_cases hj0 : 0 < j
          · have hgg := HG1.out hj0
            go_wp2_with (first
              | (go_at_call 105; refine (bitR_q _ _ _ B j _ rB).mono ?_; rintro e w5 ⟨rfl, rfl⟩; rw [← HD.out])
              | (go_at_call 98; refine (cutR _ _ _ (B.take j) _ rT).mono ?_; rintro e w' ⟨rfl, rfl⟩))
            exact FL_6 hs hM1 (by omega) K hbl hsg px hb
          · have hgg := HG2.out hj0
            go_wp2_with (go_at_call 105; refine (bitR_q _ _ _ B j _ rB).mono ?_; rintro e w5 ⟨rfl, rfl⟩; rw [← HD.out])
            exact FL_6 hs hM1 (by omega) K hbl hsg px hb

set_option maxRecDepth 100000 in
set_option maxHeartbeats 4000000 in
theorem floatR (nx : Bool) (xo : Option Addr) (xl xc : Nat) (v : Int) (w : World) (hX : Big w nx xo xl xc v) (sx : xl ≤ 1000000) :
    Calls Tryd.prog 62 #[.agg #[.bool nx, .slice xo xl xc]] w fun e w' => e = .returned (.tuple #[.int .u64 ((fout v : Nat) : Int), .bool (fin v)]) ∧ Below w.heap.size w w' := by
  have hlen := hid hX.len
  have hsg := hid hX.sign
  obtain ⟨L, rL, bL, tL, hnil, ev⟩ := hX
  have hva : Hid (v.natAbs = bv L) := hid (by rw [← ev, sg_abs])
  have px := Pr.new w 28 (.bool nx) (.slice xo xl xc)
  have PX := hid px
  obtain ⟨k0, k1, _, _⟩ := two_cells px
  have hb0 : Below w.heap.size w (w.alloc (.cells #[.bool nx, .slice xo xl xc] 28)) := (Below.refl _ _).alloc (Nat.le_refl _) _
  have HB0 := hid hb0
  clear px hb0
  by_cases h0 : xl = 0
  · subst h0
    have hL0 : L = [] := List.eq_nil_of_length_eq_zero rL.size
    have hv0 : v = 0 := by rw [← ev, hL0, sg_nil]
    have e1 : fin v = true := by
      rw [hv0]
      refine decide_eq_true ⟨?_, by unfold fbits; simp⟩
      have := (bl_le 0 0).2 (by simp)
      show bl 0 ≤ 1024
      omega
    have e2 : fout v = 0 := by unfold fout; rw [e1, hv0]; unfold ibits fbits; simp
    rw [e1, e2]
    clear e1 e2 hv0 hL0 hlen hsg hva ev hnil tL bL rL
    go_enter Tryd.func62, Tryd.ntmps62
    go_wp2
    go_ret2
    exact ⟨rfl, HB0.out⟩
  · have rz := rL.keep HB0.out
    have hM := hid (tv_53 bL xl rL.size)
    obtain ⟨M, hMM⟩ : ∃ M, M = tv L xl 53 := ⟨_, rfl⟩
    have HM : Hid (M = top54 (bv L) xl / 2) := hid (by rw [hMM, hM.out])
    have HMM := hid hMM
    clear hMM hM
    have hxp : 0 < xl := by omega
    go_enter Tryd.func62, Tryd.ntmps62
    change Code.wp Tryd.prog (Code.seq (head62 0) (Code.seq (head62 1) (Code.seq (head62 2) (Code.seq (head62 3) (Code.seq (head62 4) (tail62 5)))))) (Q62 w v) _ _
    conv => arg 2; arg 1; whnf
    conv => arg 2; arg 2; arg 1; whnf
    conv => arg 2; arg 2; arg 2; arg 1; whnf
    conv => arg 2; arg 2; arg 2; arg 2; arg 1; whnf
    conv => arg 2; arg 2; arg 2; arg 2; arg 2; arg 1; whnf
    go_wp2_with (go_at_call 109; refine (numberR _ _ _ L _ rz bL).mono ?_; rintro e w5 ⟨rfl, rfl⟩; rw [← HMM.out])
    exact FL_5 sx hxp rz bL HM hva (hid hlen.out.symm) hsg PX.out HB0.out
end Go.Proofs.YtldafoojkimdeaaDoor
