/- Walks: shiftFloor, Shift where nothing is too long. -/
import Derived.Test.YtldafoojkimdeaaDoorW12
import Derived.Test.YtldafoojkimdeaaDoorW23
import Derived.Test.YtldafoojkimdeaaDoorW48
namespace Go.Proofs.YtldafoojkimdeaaDoor
open Go.RowKit Lm

theorem ediv_neg_nat (a p : Nat) (hp : 0 < p) : (-(a : Int)) / (p : Int) = if a % p = 0 then -((a / p : Nat) : Int) else -((a / p + 1 : Nat) : Int) := by
  have e := Nat.div_add_mod a p
  have hm := Nat.mod_lt a hp
  have e2 : (a : Int) = (p : Int) * ((a / p : Nat) : Int) + ((a % p : Nat) : Int) := by rw [← Int.natCast_mul, ← Int.natCast_add, e]
  generalize a / p = q at *
  generalize a % p = r at *
  have hpi : (p : Int) ≠ 0 := by omega
  by_cases h : r = 0
  · rw [if_pos h, e2, h]
    rw [show -((p : Int) * (q : Int) + ((0 : Nat) : Int)) = (p : Int) * (-(q : Int)) by rw [Int.mul_neg]; omega]
    exact Int.mul_ediv_cancel_left _ hpi
  · rw [if_neg h, e2]
    rw [show -((p : Int) * (q : Int) + (r : Int)) = ((p : Int) - (r : Int)) + (p : Int) * (-((q + 1 : Nat) : Int)) by rw [Int.mul_neg, Int.natCast_add, Int.mul_add]; omega]
    rw [Int.add_mul_ediv_left _ _ hpi, Int.ediv_eq_zero_of_lt (by omega) (by omega)]
    omega
theorem floor_num_pos (A S : List Nat) (m : Nat) (h : val S = val A / 2 ^ m) : num false S = num false A / (2 : Int) ^ m := by
  unfold num
  simp only [Bool.false_eq_true, if_false]
  rw [h]
  simp
theorem floor_num_neg (A S : List Nat) (m : Nat) (hb : val A % 2 ^ m = 0) (h : val S = val A / 2 ^ m) : num true S = num true A / (2 : Int) ^ m := by
  have e := ediv_neg_nat (val A) (2 ^ m) (Nat.two_pow_pos m)
  rw [if_pos hb] at e
  unfold num
  simp only [if_true]
  rw [h, ← e]; simp
theorem floor_num_lost (A S : List Nat) (m : Nat) (hb : val A % 2 ^ m ≠ 0) (h : val S = val A / 2 ^ m + 1) : num true S = num true A / (2 : Int) ^ m := by
  have e := ediv_neg_nat (val A) (2 ^ m) (Nat.two_pow_pos m)
  rw [if_neg hb] at e
  unfold num
  simp only [if_true]
  rw [h, ← e]; simp

set_option maxRecDepth 100000 in
set_option maxHeartbeats 2000000 in
theorem shiftFloor_any (neg : Bool) (aa : Option Addr) (la ca : Nat) (A : List Nat) (m : Nat) (w : World) (hA : Rd w aa la ca A) (hsa : la ≤ 300) (hm : m ≤ 4096) :
    Calls Tryd.prog 96 #[.bool neg, .slice aa la ca, .int .i64 (-(m : Int))] w fun e w' => ∃ n' ao' len' c, e = .returned (.tuple #[.agg #[.bool n', .slice ao' len' len'], .int .i64 c]) ∧ Fits w w' n' ao' len' c (num neg A / (2 : Int) ^ m) ∧ Below w.heap.size w w' := by
  have hmax : max (-(m : Int)) (-4096) = -(m : Int) := by omega
  have hA1 := hA.alloc (.cells #[.bool false, .slice none 0 0] 24)
  have H0 := hid (heap_alloc_new w (.cells #[.bool false, .slice none 0 0] 24))
  have hb0 : Below w.heap.size w (w.alloc (.cells #[.bool false, .slice none 0 0] 24)) := (Below.refl _ _).alloc (Nat.le_refl _) _
  have hs0 : w.heap.size < (w.alloc (.cells #[.bool false, .slice none 0 0] 24)).heap.size := by simp
  have arm := fun (S : List Nat) (so : Option Addr) (sl sc : Nat) (nn : Bool) (wx : World) (h : Rd wx so sl sc S) => fit_any nn so sl sc S wx h
  cases neg with
  | false =>
    go_enter Tryd.func96, Tryd.ntmps96
    go_wp2_with (first
      | (go_at_call 110; refine (shiftDown_any _ _ _ A m _ hA1 (by omega) (by omega)).mono ?_; rintro e w1 ⟨so, sl, sc, bl1, rfl, ⟨S, hS, hv, hsl, hl⟩, hb1⟩; have HV := hid (floor_num_pos A S m hv); clear hv hl; have H1 := hid (heap_keep H0.out hb1))
      | (go_at_call 78; refine (fit_any _ _ _ _ S _ hS).mono ?_; rintro e w3 ⟨n', ao', len', c, rfl, hfit, hb3⟩; obtain ⟨c0, c1, f0, f1⟩ := two_cells (heap_keep H1.out hb3)))
    rw [HV.out] at hfit
    have hbx : Below w.heap.size w w1 := hb0.trans (hb1.mono (Nat.le_of_lt hs0))
    refine bodyPost_ret (v := .tuple #[.agg #[.bool n', .slice ao' len' len'], .int .i64 c]) (by simp [results, Tryd.results96, go_sem, c0, c1]) rfl ⟨_, _, _, _, rfl, ?_, ?_⟩
    · exact hfit.set2 hbx.size (Nat.lt_of_lt_of_le hs0 hb1.size) (Nat.lt_of_lt_of_le hs0 hb1.size) _ _
    · exact ((hbx.trans (hb3.mono hbx.size)).setCell (Nat.le_refl _) _).setCell (Nat.le_refl _) _
  | true =>
    go_enter Tryd.func96, Tryd.ntmps96
    go_wp2_with (go_at_call 110; refine (shiftDown_any _ _ _ A m _ hA1 (by omega) (by omega)).mono ?_; rintro e w1 ⟨so, sl, sc, bl1, rfl, ⟨S, hS, hv, hsl, hl⟩, hb1⟩; have HV := hid hv; have HL := hid hl; clear hv hl; have H1 := hid (heap_keep H0.out hb1); cases bl1)
    · have hz : val A % 2 ^ m = 0 := by
        rcases Nat.eq_zero_or_pos (val A % 2 ^ m) with h | h
        · exact h
        · exact absurd (HL.out.2 (by omega)) (by first | decide | simp)
      have HN := hid (floor_num_neg A S m hz HV.out)
      clear hz
      go_wp2_with (go_at_call 78; refine (fit_any _ _ _ _ S _ hS).mono ?_; rintro e w3 ⟨n', ao', len', c, rfl, hfit, hb3⟩; obtain ⟨c0, c1, f0, f1⟩ := two_cells (heap_keep H1.out hb3))
      rw [HN.out] at hfit
      have hbx : Below w.heap.size w w1 := hb0.trans (hb1.mono (Nat.le_of_lt hs0))
      refine bodyPost_ret (v := .tuple #[.agg #[.bool n', .slice ao' len' len'], .int .i64 c]) (by simp [results, Tryd.results96, go_sem, c0, c1]) rfl ⟨_, _, _, _, rfl, ?_, ?_⟩
      · exact hfit.set2 hbx.size (Nat.lt_of_lt_of_le hs0 hb1.size) (Nat.lt_of_lt_of_le hs0 hb1.size) _ _
      · exact ((hbx.trans (hb3.mono hbx.size)).setCell (Nat.le_refl _) _).setCell (Nat.le_refl _) _
    · have hz : val A % 2 ^ m ≠ 0 := HL.out.1 (by first | rfl | trivial)
      have HZ := hid hz
      clear hz
      go_wp2_with (first
        | (go_at_call 70; refine (limbsOf_one _).mono ?_; rintro e w2 ⟨gl, rfl, hgl, hL1, hb2⟩; have hS2 := hS.keep hb2; have H2 := hid (heap_keep H1.out hb2); have hL1' := (show Rd w2 (some ⟨gl, 0, none⟩) 2 2 [1, 0] from hL1.whole ok_one 2 (by simp) (by omega)))
        | (go_at_call 84; refine (sum_any _ _ _ S _ _ _ [1, 0] _ hS2 hL1' (by omega) (by omega)).mono ?_; rintro e w4 ⟨gs, T, rfl, hgs, hT, hTl, hTo, hTv, hb4⟩; have HN := hid (floor_num_lost A T m HZ.out (by rw [hTv, HV.out]; simp [val])); have hTr := hT.whole hTo T.length (Nat.le_refl _) (by omega); clear hTv hTl; have H4 := hid (heap_keep H2.out hb4))
        | (go_at_call 78; refine (fit_any _ _ _ _ T _ hTr).mono ?_; rintro e w3 ⟨n', ao', len', c, rfl, hfit, hb3⟩; obtain ⟨c0, c1, f0, f1⟩ := two_cells (heap_keep H4.out hb3)))
      rw [HN.out] at hfit
      have hbx : Below w.heap.size w w1 := hb0.trans (hb1.mono (Nat.le_of_lt hs0))
      have hbz : Below w.heap.size w w2 := hbx.trans (hb2.mono hbx.size)
      have hby : Below w.heap.size w w4 := hbz.trans (hb4.mono hbz.size)
      have hlt : w.heap.size < w4.heap.size := Nat.lt_of_lt_of_le hs0 (Nat.le_trans hb1.size (Nat.le_trans hb2.size hb4.size))
      refine bodyPost_ret (v := .tuple #[.agg #[.bool n', .slice ao' len' len'], .int .i64 c]) (by simp [results, Tryd.results96, go_sem, c0, c1]) rfl ⟨_, _, _, _, rfl, ?_, ?_⟩
      · exact hfit.set2 hby.size hlt hlt _ _
      · exact ((hby.trans (hb3.mono hby.size)).setCell (Nat.le_refl _) _).setCell (Nat.le_refl _) _
end Go.Proofs.YtldafoojkimdeaaDoor
