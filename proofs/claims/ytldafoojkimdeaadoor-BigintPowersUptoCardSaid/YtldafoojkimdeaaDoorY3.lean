/- Gcd, Pow and Shift of the program where something is wrong; Shift far downwards. No condition but those that each theorem names. -/
import Derived.Test.YtldafoojkimdeaaDoorW60m
namespace Go.Proofs.YtldafoojkimdeaaDoor
open Go.RowKit Lm

set_option maxRecDepth 100000 in
set_option maxHeartbeats 2000000 in
theorem shiftFloor_far (neg : Bool) (aa : Option Addr) (la ca : Nat) (A : List Nat) (m : Nat) (N : Int) (w : World) (hA : Rd w aa la ca A) (hsa : la ≤ 300) (hm : Hid (m = 4096)) (hN : N ≤ -4096) :
    Calls Tryd.prog 96 #[.bool neg, .slice aa la ca, .int .i64 N] w fun e w' => ∃ n' ao' len' c, e = .returned (.tuple #[.agg #[.bool n', .slice ao' len' len'], .int .i64 c]) ∧ Fits w w' n' ao' len' c (num neg A / (2 : Int) ^ m) ∧ Below w.heap.size w w' := by
  have hmm : m ≤ 4096 := by have := hm.out; omega
  have hmax : max N (-4096) = -(m : Int) := by have := hm.out; omega
  have hA1 := hA.alloc (.cells #[.bool false, .slice none 0 0] 24)
  have H0 := hid (heap_alloc_new w (.cells #[.bool false, .slice none 0 0] 24))
  have hb0 : Below w.heap.size w (w.alloc (.cells #[.bool false, .slice none 0 0] 24)) := (Below.refl _ _).alloc (Nat.le_refl _) _
  have hs0 : w.heap.size < (w.alloc (.cells #[.bool false, .slice none 0 0] 24)).heap.size := by simp
  have arm := fun (S : List Nat) (so : Option Addr) (sl sc : Nat) (nn : Bool) (wx : World) (h : Rd wx so sl sc S) => fit_any nn so sl sc S wx h
  cases neg with
  | false =>
    go_enter Tryd.func96, Tryd.ntmps96
    go_wp2_with (first
      | (go_at_call 110; refine (shiftDown_any _ _ _ A m _ hA1 (by omega) (by omega)).mono ?_; rintro e w1 ⟨so, sl, sc, bl1, rfl, ⟨S, hS, hv, hsl, hl⟩, hb1⟩; have HV := hid (floor_num_pos A S m hv); clear hv hl; have H1 := hid (heap_keep H0.out hb1))
      | (go_at_call 78; refine (fit_any _ _ _ _ S _ hS).mono ?_; rintro e w3 ⟨n', ao', len', c, rfl, hfit, hb3⟩; obtain ⟨c0, c1, f0, f1⟩ := two_cells (heap_keep H1.out hb3)))
    rw [HV.out] at hfit
    have hbx : Below w.heap.size w w1 := hb0.trans (hb1.mono (Nat.le_of_lt hs0))
    refine bodyPost_ret (v := .tuple #[.agg #[.bool n', .slice ao' len' len'], .int .i64 c]) (by simp [results, Tryd.results96, go_sem, c0, c1]) rfl ⟨_, _, _, _, rfl, ?_, ?_⟩
    · exact hfit.set2 hbx.size (Nat.lt_of_lt_of_le hs0 hb1.size) (Nat.lt_of_lt_of_le hs0 hb1.size) _ _
    · exact ((hbx.trans (hb3.mono hbx.size)).setCell (Nat.le_refl _) _).setCell (Nat.le_refl _) _
  | true =>
    go_enter Tryd.func96, Tryd.ntmps96
    go_wp2_with (go_at_call 110; refine (shiftDown_any _ _ _ A m _ hA1 (by omega) (by omega)).mono ?_; rintro e w1 ⟨so, sl, sc, bl1, rfl, ⟨S, hS, hv, hsl, hl⟩, hb1⟩; have HV := hid hv; have HL := hid hl; clear hv hl; have H1 := hid (heap_keep H0.out hb1); cases bl1)
    · have hz : val A % 2 ^ m = 0 := by
        rcases Nat.eq_zero_or_pos (val A % 2 ^ m) with h | h
        · exact h
        · exact absurd (HL.out.2 (by omega)) (by first | decide | simp)
      have HN := hid (floor_num_neg A S m hz HV.out)
      clear hz
      go_wp2_with (go_at_call 78; refine (fit_any _ _ _ _ S _ hS).mono ?_; rintro e w3 ⟨n', ao', len', c, rfl, hfit, hb3⟩; obtain ⟨c0, c1, f0, f1⟩ := two_cells (heap_keep H1.out hb3))
      rw [HN.out] at hfit
      have hbx : Below w.heap.size w w1 := hb0.trans (hb1.mono (Nat.le_of_lt hs0))
      refine bodyPost_ret (v := .tuple #[.agg #[.bool n', .slice ao' len' len'], .int .i64 c]) (by simp [results, Tryd.results96, go_sem, c0, c1]) rfl ⟨_, _, _, _, rfl, ?_, ?_⟩
      · exact hfit.set2 hbx.size (Nat.lt_of_lt_of_le hs0 hb1.size) (Nat.lt_of_lt_of_le hs0 hb1.size) _ _
      · exact ((hbx.trans (hb3.mono hbx.size)).setCell (Nat.le_refl _) _).setCell (Nat.le_refl _) _
    · have hz : val A % 2 ^ m ≠ 0 := HL.out.1 (by first | rfl | trivial)
      have HZ := hid hz
      clear hz
      go_wp2_with (first
        | (go_at_call 70; refine (limbsOf_one _).mono ?_; rintro e w2 ⟨gl, rfl, hgl, hL1, hb2⟩; have hS2 := hS.keep hb2; have H2 := hid (heap_keep H1.out hb2); have hL1' := (show Rd w2 (some ⟨gl, 0, none⟩) 2 2 [1, 0] from hL1.whole ok_one 2 (by simp) (by omega)))
        | (go_at_call 84; refine (sum_any _ _ _ S _ _ _ [1, 0] _ hS2 hL1' (by omega) (by omega)).mono ?_; rintro e w4 ⟨gs, T, rfl, hgs, hT, hTl, hTo, hTv, hb4⟩; have HN := hid (floor_num_lost A T m HZ.out (by rw [hTv, HV.out]; simp [val])); have hTr := hT.whole hTo T.length (Nat.le_refl _) (by omega); clear hTv hTl; have H4 := hid (heap_keep H2.out hb4))
        | (go_at_call 78; refine (fit_any _ _ _ _ T _ hTr).mono ?_; rintro e w3 ⟨n', ao', len', c, rfl, hfit, hb3⟩; obtain ⟨c0, c1, f0, f1⟩ := two_cells (heap_keep H4.out hb3)))
      rw [HN.out] at hfit
      have hbx : Below w.heap.size w w1 := hb0.trans (hb1.mono (Nat.le_of_lt hs0))
      have hbz : Below w.heap.size w w2 := hbx.trans (hb2.mono hbx.size)
      have hby : Below w.heap.size w w4 := hbz.trans (hb4.mono hbz.size)
      have hlt : w.heap.size < w4.heap.size := Nat.lt_of_lt_of_le hs0 (Nat.le_trans hb1.size (Nat.le_trans hb2.size hb4.size))
      refine bodyPost_ret (v := .tuple #[.agg #[.bool n', .slice ao' len' len'], .int .i64 c]) (by simp [results, Tryd.results96, go_sem, c0, c1]) rfl ⟨_, _, _, _, rfl, ?_, ?_⟩
      · exact hfit.set2 hby.size hlt hlt _ _
      · exact ((hby.trans (hb3.mono hby.size)).setCell (Nat.le_refl _) _).setCell (Nat.le_refl _) _
set_option maxRecDepth 100000 in
set_option maxHeartbeats 2000000 in
theorem shift_deep (na : Bool) (aa : Option Addr) (la ca : Nat) (A : List Nat) (m : Nat) (N : Int) (w : World) (hA : Rd w aa la ca A) (hbad : tooLong A = false) (h0 : val A ≠ 0) (hm : Hid (m = 4096)) (hN : N ≤ -4096) :
    Calls Tryd.prog 53 #[.agg #[.bool na, .slice aa la ca], .int .i64 N] w fun e w' => ∃ n' ao' len' c, e = .returned (.tuple #[.agg #[.bool n', .slice ao' len' len'], .int .i64 c]) ∧ Fits w w' n' ao' len' c (num na A / (2 : Int) ^ m) ∧ Below w.heap.size w w' := by
  have hsA := small_len A hbad
  have htl : 0 < (tl A).length := by
    rcases Nat.eq_zero_or_pos (tl A).length with h | h
    · have e := List.eq_nil_of_length_eq_zero h
      rw [← tl_val, e] at h0; exact absurd rfl h0
    · exact h
  have hnv := hid (num_tl na A)
  have hneg : N < 0 := by omega
  go_enter Tryd.func53, Tryd.ntmps53
  go_wp2_with (first
    | (go_at_call 77; refine (long1_any _ na aa la ca A _ (((hA.alloc _).alloc _).alloc _) (by simp [go_sem]) (by simp [go_sem])).mono ?_; rintro e w1 ⟨rfl, hb1⟩; rw [hbad]; obtain ⟨p1, p2, _, hbw⟩ := hp3 _ _ _ _ hb1; obtain ⟨a0, a1, _, _⟩ := two_cells p1; have P2 := hid p2; have hA1 := hA.keep hbw)
    | (go_at_call 71; refine (trim_any _ _ _ A _ hA1).mono ?_; rintro e w5 ⟨rfl, rfl⟩)
    | (go_at_call 96; refine (shiftFloor_far na aa (tl A).length ca (tl A) m N _ hA1.tl (by omega) hm hN).mono ?_; rintro e w3 ⟨n', ao', len', c, rfl, hfit, hb3⟩; obtain ⟨c0, c1, f0, f1⟩ := two_cells (heap_keep P2.out hb3)))
  have hs1 := lt_of_block P2.out
  rw [hnv.out] at hfit
  refine bodyPost_ret (v := .tuple #[.agg #[.bool n', .slice ao' len' len'], .int .i64 c]) (by simp [results, Tryd.results53, go_sem, c0, c1]) rfl ⟨_, _, _, _, rfl, ?_, ?_⟩
  · exact hfit.set2 hbw.size hs1 hs1 _ _
  · exact ((hbw.trans (hb3.mono hbw.size)).setCell (by simp) _).setCell (by simp) _


theorem div_deep_of {v : Int} {m k : Nat} (hv : bl v.natAbs ≤ m) (hk : m ≤ k) : v / (2 : Int) ^ m = v / (2 : Int) ^ k := by
  have h1 := (bl_le _ _).1 hv
  have h2 : 2 ^ m ≤ 2 ^ k := Nat.pow_le_pow_right (by decide) hk
  have h3 := Nat.two_pow_pos m
  have e1 : (2 : Int) ^ m = ((2 ^ m : Nat) : Int) := by rw [Int.natCast_pow]; rfl
  have e2 : (2 : Int) ^ k = ((2 ^ k : Nat) : Int) := by rw [Int.natCast_pow]; rfl
  rw [e1, e2]
  generalize (2 ^ m : Nat) = p at *
  generalize (2 ^ k : Nat) = q at *
  by_cases h0 : 0 ≤ v
  · rw [Int.ediv_eq_zero_of_lt h0 (by omega), Int.ediv_eq_zero_of_lt h0 (by omega)]
  · have hm : ∀ x : Nat, v.natAbs < x → v / (x : Int) = -1 := by
      intro x hx
      apply Int.le_antisymm
      · have := Int.ediv_neg_of_neg_of_pos (a := v) (b := (x : Int)) (by omega) (by omega)
        omega
      · rw [Int.le_ediv_iff_mul_le (by omega)]; omega
    rw [hm p h1, hm q (by omega)]
theorem div_deep {v : Int} {k : Nat} (hv : bl v.natAbs ≤ 4096) (hk : 4096 ≤ k) : v / (2 : Int) ^ 4096 = v / (2 : Int) ^ k := div_deep_of hv hk

set_option maxRecDepth 100000 in
set_option maxHeartbeats 2000000 in
theorem shift_bad (na : Bool) (aa : Option Addr) (la ca : Nat) (A : List Nat) (N : Int) (w : World) (hA : Rd w aa la ca A) (hbad : tooLong A = true) :
    Calls Tryd.prog 53 #[.agg #[.bool na, .slice aa la ca], .int .i64 N] w fun e w' => e = .returned (.tuple #[.agg #[.bool false, .slice none 0 0], .int .i64 10]) ∧ Below w.heap.size w w' := by
  go_enter Tryd.func53, Tryd.ntmps53
  go_wp2_with (go_at_call 77; refine (long1_any _ na aa la ca A _ (((hA.alloc _).alloc _).alloc _) (by simp [go_sem]) (by simp [go_sem])).mono ?_; rintro e w1 ⟨rfl, hb1⟩; rw [hbad]; obtain ⟨p1, p2, _, hbw⟩ := hp3 _ _ _ _ hb1; obtain ⟨c0, c1, f0, f1⟩ := two_cells p2)
  refine bodyPost_ret (v := .tuple #[.agg #[.bool false, .slice none 0 0], .int .i64 10]) (by simp [results, Tryd.results53, go_sem, c0, c1]) rfl ⟨rfl, ?_⟩
  exact (hbw.setCell (by simp) _).setCell (by simp) _

set_option maxRecDepth 100000 in
set_option maxHeartbeats 2000000 in
theorem pow_bad (na : Bool) (aa : Option Addr) (la ca : Nat) (A : List Nat) (N : Int) (w : World) (hA : Rd w aa la ca A) (hbad : tooLong A = true) :
    Calls Tryd.prog 52 #[.agg #[.bool na, .slice aa la ca], .int .i64 N] w fun e w' => e = .returned (.tuple #[.agg #[.bool false, .slice none 0 0], .int .i64 10]) ∧ Below w.heap.size w w' := by
  go_enter Tryd.func52, Tryd.ntmps52
  go_wp2_with (go_at_call 77; refine (long1_any _ na aa la ca A _ (((hA.alloc _).alloc _).alloc _) (by simp [go_sem]) (by simp [go_sem])).mono ?_; rintro e w1 ⟨rfl, hb1⟩; rw [hbad]; obtain ⟨p1, p2, _, hbw⟩ := hp3 _ _ _ _ hb1; obtain ⟨c0, c1, f0, f1⟩ := two_cells p2)
  refine bodyPost_ret (v := .tuple #[.agg #[.bool false, .slice none 0 0], .int .i64 10]) (by simp [results, Tryd.results52, go_sem, c0, c1]) rfl ⟨rfl, ?_⟩
  exact (hbw.setCell (by simp) _).setCell (by simp) _

set_option maxRecDepth 100000 in
set_option maxHeartbeats 2000000 in
theorem pow_neg (na : Bool) (aa : Option Addr) (la ca : Nat) (A : List Nat) (N : Int) (w : World) (hA : Rd w aa la ca A) (hbad : tooLong A = false) (hN : N < 0) :
    Calls Tryd.prog 52 #[.agg #[.bool na, .slice aa la ca], .int .i64 N] w fun e w' => e = .returned (.tuple #[.agg #[.bool false, .slice none 0 0], .int .i64 15]) ∧ Below w.heap.size w w' := by
  go_enter Tryd.func52, Tryd.ntmps52
  go_wp2_with (go_at_call 77; refine (long1_any _ na aa la ca A _ (((hA.alloc _).alloc _).alloc _) (by simp [go_sem]) (by simp [go_sem])).mono ?_; rintro e w1 ⟨rfl, hb1⟩; rw [hbad]; obtain ⟨p1, p2, _, hbw⟩ := hp3 _ _ _ _ hb1; obtain ⟨c0, c1, f0, f1⟩ := two_cells p2)
  refine bodyPost_ret (v := .tuple #[.agg #[.bool false, .slice none 0 0], .int .i64 15]) (by simp [results, Tryd.results52, go_sem, c0, c1]) rfl ⟨rfl, ?_⟩
  exact (hbw.setCell (by simp) _).setCell (by simp) _

set_option maxRecDepth 100000 in
set_option maxHeartbeats 2000000 in
theorem gcd_bad (na : Bool) (aa : Option Addr) (la ca : Nat) (A : List Nat) (nb : Bool) (ab : Option Addr) (lb cb : Nat) (B : List Nat) (w : World) (hA : Rd w aa la ca A) (hB : Rd w ab lb cb B) (hbad : (tooLong A || tooLong B) = true) :
    Calls Tryd.prog 51 #[.agg #[.bool na, .slice aa la ca], .agg #[.bool nb, .slice ab lb cb]] w fun e w' => e = .returned (.tuple #[.agg #[.bool false, .slice none 0 0], .int .i64 10]) ∧ Below w.heap.size w w' := by
  go_enter Tryd.func51, Tryd.ntmps51
  go_wp2_with (go_at_call 77; refine (long2_any _ na aa la ca A nb ab lb cb B _ ((((hA.alloc _).alloc _).alloc _).alloc _) ((((hB.alloc _).alloc _).alloc _).alloc _) (by simp [go_sem]) (by simp [go_sem]) (by simp [go_sem]) (by simp [go_sem])).mono ?_; rintro e w1 ⟨rfl, hb1⟩; rw [hbad]; obtain ⟨p1, p2, p3, hbw⟩ := hp4 _ _ _ _ _ hb1; obtain ⟨c0, c1, f0, f1⟩ := two_cells p3)
  refine bodyPost_ret (v := .tuple #[.agg #[.bool false, .slice none 0 0], .int .i64 10]) (by simp [results, Tryd.results51, go_sem, c0, c1]) rfl ⟨rfl, ?_⟩
  exact (hbw.setCell (by show w.heap.size ≤ w.heap.size + 1 + 1; omega) _).setCell (by show w.heap.size ≤ w.heap.size + 1 + 1; omega) _

end Go.Proofs.YtldafoojkimdeaaDoor
