/- Walks: Shift where nothing is too long. -/
import Derived.Test.YtldafoojkimdeaaDoorW49
import Derived.Test.YtldafoojkimdeaaDoorW58
namespace Go.Proofs.YtldafoojkimdeaaDoor
open Go.RowKit Lm

theorem bl_mul_pow (x m : Nat) (hx : x ≠ 0) : bl (x * 2 ^ m) = bl x + m := by
  have h1 := (bl_le x (bl x)).1 (Nat.le_refl _)
  have h2 : ¬ x < 2 ^ (bl x - 1) := by
    intro h
    have h3 := (bl_le x (bl x - 1)).2 h
    have h4 : ¬ bl x ≤ 0 := by rw [bl_le]; simp; exact hx
    omega
  have h4 : 0 < bl x := by
    rcases Nat.eq_zero_or_pos (bl x) with h | h
    · have := (bl_le x 0).1 (by omega); simp at this; exact absurd this hx
    · exact h
  have hp : 2 ^ bl x = 2 * 2 ^ (bl x - 1) := by
    conv => lhs; rw [show bl x = (bl x - 1) + 1 by omega, Nat.pow_succ]
    omega
  have hq : 0 < 2 ^ m := Nat.two_pow_pos m
  refine bl_unique ?_ ?_
  · rw [Nat.pow_add]; exact Nat.mul_lt_mul_of_pos_right h1 hq
  · rw [Nat.pow_add, ← Nat.mul_assoc]
    exact Nat.mul_le_mul_right _ (by omega)
theorem num_pow (n : Bool) (A L : List Nat) (m : Nat) (h : val L = val A * 2 ^ m) : num n L = num n A * (2 : Int) ^ m := by
  unfold num; rw [h]
  cases n <;> simp [Int.natCast_mul, Int.neg_mul]

set_option maxRecDepth 100000 in
set_option maxHeartbeats 2000000 in
theorem shift_zero (na : Bool) (aa : Option Addr) (la ca : Nat) (A : List Nat) (n : Int) (w : World) (hA : Rd w aa la ca A) (hbad : tooLong A = false) (h0 : val A = 0) :
    Calls Tryd.prog 53 #[.agg #[.bool na, .slice aa la ca], .int .i64 n] w fun e w' => e = .returned (.tuple #[.agg #[.bool false, .slice none 0 0], .int .i64 0]) ∧ Below w.heap.size w w' := by
  have htl : (tl A).length = 0 := by have := top_zero (tl_top A) (by rw [tl_val]; exact h0); rw [this]; rfl
  go_enter Tryd.func53, Tryd.ntmps53
  go_wp2_with (first
    | (go_at_call 77; refine (long1_any _ na aa la ca A _ (((hA.alloc _).alloc _).alloc _) (by simp [go_sem]) (by simp [go_sem])).mono ?_; rintro e w1 ⟨rfl, hb1⟩; rw [hbad]; obtain ⟨p1, p2, _, hbw⟩ := hp3 _ _ _ _ hb1; obtain ⟨a0, a1, _, _⟩ := two_cells p1; obtain ⟨c0, c1, f0, f1⟩ := two_cells p2; have hA1 := hA.keep hbw)
    | (go_at_call 71; refine (trim_any _ _ _ A _ hA1).mono ?_; rintro e w5 ⟨rfl, rfl⟩; rw [htl]))
  refine bodyPost_ret (v := .tuple #[.agg #[.bool false, .slice none 0 0], .int .i64 0]) (by simp [results, Tryd.results53, go_sem, c0, c1]) rfl ⟨rfl, ?_⟩
  exact (hbw.setCell (by simp) _).setCell (by simp) _

set_option maxRecDepth 100000 in
set_option maxHeartbeats 2000000 in
theorem shift_long (na : Bool) (aa : Option Addr) (la ca : Nat) (A : List Nat) (m : Nat) (w : World) (hA : Rd w aa la ca A) (hbad : tooLong A = false) (h0 : val A ≠ 0) (hm : 4096 < bl (val A) + m) (hm2 : m ≤ 9223372036854775807) :
    Calls Tryd.prog 53 #[.agg #[.bool na, .slice aa la ca], .int .i64 (m : Int)] w fun e w' => e = .returned (.tuple #[.agg #[.bool false, .slice none 0 0], .int .i64 10]) ∧ Below w.heap.size w w' := by
  have htl : 0 < (tl A).length := by
    rcases Nat.eq_zero_or_pos (tl A).length with h | h
    · have e := List.eq_nil_of_length_eq_zero h
      rw [← tl_val, e] at h0; exact absurd rfl h0
    · exact h
  have hbl : bl (val (tl A)) = bl (val A) := by rw [tl_val]
  have hb4 : bl (val A) ≤ 4096 := by unfold tooLong at hbad; simpa using hbad
  go_enter Tryd.func53, Tryd.ntmps53
  go_wp2_with (first
    | (go_at_call 77; refine (long1_any _ na aa la ca A _ (((hA.alloc _).alloc _).alloc _) (by simp [go_sem]) (by simp [go_sem])).mono ?_; rintro e w1 ⟨rfl, hb1⟩; rw [hbad]; obtain ⟨p1, p2, _, hbw⟩ := hp3 _ _ _ _ hb1; obtain ⟨a0, a1, _, _⟩ := two_cells p1; obtain ⟨c0, c1, f0, f1⟩ := two_cells p2; have hA1 := hA.keep hbw)
    | (go_at_call 71; refine (trim_any _ _ _ A _ hA1).mono ?_; rintro e w5 ⟨rfl, rfl⟩)
    | (go_at_call 75; refine (bitsOf_any _ _ _ (tl A) _ hA1.tl (tl_top A)).mono ?_; rintro e w5 ⟨rfl, rfl⟩; rw [hbl]))
  refine bodyPost_ret (v := .tuple #[.agg #[.bool false, .slice none 0 0], .int .i64 10]) (by simp [results, Tryd.results53, go_sem, c0, c1]) rfl ⟨rfl, ?_⟩
  exact (hbw.setCell (by simp) _).setCell (by simp) _

set_option maxRecDepth 100000 in
set_option maxHeartbeats 2000000 in
theorem shift_fits (na : Bool) (aa : Option Addr) (la ca : Nat) (A : List Nat) (m : Nat) (w : World) (hA : Rd w aa la ca A) (hbad : tooLong A = false) (h0 : val A ≠ 0) (hm : bl (val A) + m ≤ 4096) :
    Calls Tryd.prog 53 #[.agg #[.bool na, .slice aa la ca], .int .i64 (m : Int)] w fun e w' => ∃ n' ao' len' c, e = .returned (.tuple #[.agg #[.bool n', .slice ao' len' len'], .int .i64 c]) ∧ Fits w w' n' ao' len' c (num na A * (2 : Int) ^ m) ∧ Below w.heap.size w w' := by
  have hsA := small_len A hbad
  have htl : 0 < (tl A).length := by
    rcases Nat.eq_zero_or_pos (tl A).length with h | h
    · have e := List.eq_nil_of_length_eq_zero h
      rw [← tl_val, e] at h0; exact absurd rfl h0
    · exact h
  have hbl : bl (val (tl A)) = bl (val A) := by rw [tl_val]
  have hvA := hid (tl_val A)
  go_enter Tryd.func53, Tryd.ntmps53
  go_wp2_with (first
    | (go_at_call 77; refine (long1_any _ na aa la ca A _ (((hA.alloc _).alloc _).alloc _) (by simp [go_sem]) (by simp [go_sem])).mono ?_; rintro e w1 ⟨rfl, hb1⟩; rw [hbad]; obtain ⟨p1, p2, _, hbw⟩ := hp3 _ _ _ _ hb1; obtain ⟨a0, a1, _, _⟩ := two_cells p1; have P2 := hid p2; have hA1 := hA.keep hbw)
    | (go_at_call 71; refine (trim_any _ _ _ A _ hA1).mono ?_; rintro e w5 ⟨rfl, rfl⟩)
    | (go_at_call 75; refine (bitsOf_any _ _ _ (tl A) _ hA1.tl (tl_top A)).mono ?_; rintro e w5 ⟨rfl, rfl⟩; rw [hbl]))
  have hs1 := lt_of_block P2.out
  clear hb1 p1 p2
  have a0d := show w1.drew.cell? ⟨w.heap.size, 0, none⟩ = _ from a0
  go_region_held3 (fun w' => w'.cell? ⟨w.heap.size, 0, none⟩ = some (.bool na)) (first | (with_reducible exact a0) | (with_reducible exact a0d) | (with_reducible exact a02) | (with_reducible exact a03) | (simp [go_sem, a03]; done))
    (first
      | (go_at_call 97; (with_reducible refine (shiftUp_any aa (tl A).length ca (tl A) m w1.drew hA1.tl.drew (by omega) (by omega)).mono ?_); rintro e w2 ⟨g, L, rfl, hg, hR, hLl, hok, hval, hb2⟩; have HL := hid hLl; have HV := hid (num_pow na A L m (by rw [hval, hvA.out])); have hLs : L.length ≤ 5000 := (by omega); clear hLl hval; have a02 := cell_keep a0 (undrew hb2); have Q2 := hid (heap_keep P2.out (undrew hb2)))
      | (go_at_call 78; refine (fit_any _ _ _ _ L _ (hR.whole hok L.length (Nat.le_refl _) (by omega))).mono ?_; rintro e w3 ⟨n', ao', len', c, rfl, hfit, hb3⟩; have a03 := cell_keep a02 hb3; obtain ⟨c0, c1, f0, f1⟩ := two_cells (heap_keep Q2.out hb3)))
  rw [HV.out] at hfit
  have hx : Below w.heap.size w w2 := hbw.trans ((undrew hb2).mono hbw.size)
  have hs2 := (undrew hb2).size
  go_wp2
  refine bodyPost_ret (v := .tuple #[.agg #[.bool n', .slice ao' len' len'], .int .i64 c]) (by simp [results, Tryd.results53, go_sem, c0, c1]) rfl ⟨_, _, _, _, rfl, ?_, ?_⟩
  · exact hfit.set2 hx.size (show w.heap.size + 1 < w2.heap.size by omega) (show w.heap.size + 1 < w2.heap.size by omega) _ _
  · exact ((hx.trans (hb3.mono hx.size)).setCell (by simp) _).setCell (by simp) _

set_option maxRecDepth 100000 in
set_option maxHeartbeats 2000000 in
theorem shift_down (na : Bool) (aa : Option Addr) (la ca : Nat) (A : List Nat) (m : Nat) (w : World) (hA : Rd w aa la ca A) (hbad : tooLong A = false) (h0 : val A ≠ 0) (hm0 : 0 < m) (hm : m ≤ 4096) :
    Calls Tryd.prog 53 #[.agg #[.bool na, .slice aa la ca], .int .i64 (-(m : Int))] w fun e w' => ∃ n' ao' len' c, e = .returned (.tuple #[.agg #[.bool n', .slice ao' len' len'], .int .i64 c]) ∧ Fits w w' n' ao' len' c (num na A / (2 : Int) ^ m) ∧ Below w.heap.size w w' := by
  have hsA := small_len A hbad
  have htl : 0 < (tl A).length := by
    rcases Nat.eq_zero_or_pos (tl A).length with h | h
    · have e := List.eq_nil_of_length_eq_zero h
      rw [← tl_val, e] at h0; exact absurd rfl h0
    · exact h
  have hnv := hid (num_tl na A)
  have hneg : -(m : Int) < 0 := by omega
  go_enter Tryd.func53, Tryd.ntmps53
  go_wp2_with (first
    | (go_at_call 77; refine (long1_any _ na aa la ca A _ (((hA.alloc _).alloc _).alloc _) (by simp [go_sem]) (by simp [go_sem])).mono ?_; rintro e w1 ⟨rfl, hb1⟩; rw [hbad]; obtain ⟨p1, p2, _, hbw⟩ := hp3 _ _ _ _ hb1; obtain ⟨a0, a1, _, _⟩ := two_cells p1; have P2 := hid p2; have hA1 := hA.keep hbw)
    | (go_at_call 71; refine (trim_any _ _ _ A _ hA1).mono ?_; rintro e w5 ⟨rfl, rfl⟩)
    | (go_at_call 96; refine (shiftFloor_any na aa (tl A).length ca (tl A) m _ hA1.tl (by omega) hm).mono ?_; rintro e w3 ⟨n', ao', len', c, rfl, hfit, hb3⟩; obtain ⟨c0, c1, f0, f1⟩ := two_cells (heap_keep P2.out hb3)))
  have hs1 := lt_of_block P2.out
  rw [hnv.out] at hfit
  refine bodyPost_ret (v := .tuple #[.agg #[.bool n', .slice ao' len' len'], .int .i64 c]) (by simp [results, Tryd.results53, go_sem, c0, c1]) rfl ⟨_, _, _, _, rfl, ?_, ?_⟩
  · exact hfit.set2 hbw.size hs1 hs1 _ _
  · exact ((hbw.trans (hb3.mono hbw.size)).setCell (by simp) _).setCell (by simp) _

theorem bl_zero : bl 0 ≤ 4096 := by have := (bl_le 0 0).2 (by simp); omega
theorem fits_zero (w w' : World) (v : Int) (h : v = 0) : Fits w w' false none 0 0 v := by
  subst h; exact .inl ⟨bl_zero, rfl, Num.zero _ _⟩
theorem num_zero_of {n : Bool} {A : List Nat} (h : val A = 0) : num n A = 0 := by unfold num; rw [h]; cases n <;> rfl

theorem shift_up_any (na : Bool) (aa : Option Addr) (la ca : Nat) (A : List Nat) (m : Nat) (w : World) (hA : Rd w aa la ca A) (hbad : tooLong A = false) (hm : m ≤ 9223372036854775807) :
    Calls Tryd.prog 53 #[.agg #[.bool na, .slice aa la ca], .int .i64 (m : Int)] w fun e w' => ∃ n' ao' len' c, e = .returned (.tuple #[.agg #[.bool n', .slice ao' len' len'], .int .i64 c]) ∧ Fits w w' n' ao' len' c (num na A * (2 : Int) ^ m) ∧ Below w.heap.size w w' := by
  by_cases h0 : val A = 0
  · refine (shift_zero na aa la ca A m w hA hbad h0).mono ?_
    rintro e w' ⟨rfl, hb⟩
    exact ⟨_, _, _, _, rfl, fits_zero _ _ _ (by rw [num_zero_of h0, Int.zero_mul]), hb⟩
  · by_cases hl : 4096 < bl (val A) + m
    · refine (shift_long na aa la ca A m w hA hbad h0 hl hm).mono ?_
      rintro e w' ⟨rfl, hb⟩
      refine ⟨_, _, _, _, rfl, .inr ⟨?_, rfl, rfl, rfl, rfl⟩, hb⟩
      have e : (num na A * (2 : Int) ^ m).natAbs = val A * 2 ^ m := by rw [Int.natAbs_mul, num_abs, Int.natAbs_pow]; rfl
      rw [e, bl_mul_pow _ _ h0]; exact hl
    · exact shift_fits na aa la ca A m w hA hbad h0 (by omega)
theorem shift_down_any (na : Bool) (aa : Option Addr) (la ca : Nat) (A : List Nat) (m : Nat) (w : World) (hA : Rd w aa la ca A) (hbad : tooLong A = false) (hm : m ≤ 4096) :
    Calls Tryd.prog 53 #[.agg #[.bool na, .slice aa la ca], .int .i64 (-(m : Int))] w fun e w' => ∃ n' ao' len' c, e = .returned (.tuple #[.agg #[.bool n', .slice ao' len' len'], .int .i64 c]) ∧ Fits w w' n' ao' len' c (num na A / (2 : Int) ^ m) ∧ Below w.heap.size w w' := by
  by_cases h0 : val A = 0
  · refine (shift_zero na aa la ca A _ w hA hbad h0).mono ?_
    rintro e w' ⟨rfl, hb⟩
    exact ⟨_, _, _, _, rfl, fits_zero _ _ _ (by rw [num_zero_of h0, Int.zero_ediv]), hb⟩
  · rcases Nat.eq_zero_or_pos m with h | h
    · subst h
      have := shift_up_any na aa la ca A 0 w hA hbad (by omega)
      simpa using this
    · exact shift_down na aa la ca A m w hA hbad h0 h hm
end Go.Proofs.YtldafoojkimdeaaDoor
