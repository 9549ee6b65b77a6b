/- Walks: From, To. -/
import Derived.Test.YtldafoojkimdeaaDoorW8
namespace Go.Proofs.YtldafoojkimdeaaDoor
open Go.RowKit Lm

theorem val_two (x : Nat) : val [x % 4294967296, x / 4294967296] = x := by simp [val]; omega
theorem ok_two (x : Nat) (h : x < 18446744073709551616) : Ok [x % 4294967296, x / 4294967296] := (Ok.nil.cons (by omega)).cons (by omega)

theorem u64_of_neg (n : Int) (h0 : n < 0) (h1 : -9223372036854775808 ≤ n) : IntKind.u64.wrap (-(IntKind.u64.wrap n)) = ((n.natAbs : Nat) : Int) := by
  rw [IntKind.wrap_u64, IntKind.wrap_u64]; omega

set_option maxRecDepth 100000 in
set_option maxHeartbeats 1000000 in
theorem from_any (n : Int) (w : World) (h1 : -9223372036854775808 ≤ n) (h2 : n ≤ 9223372036854775807) :
    Calls Tryd.prog 24 #[.int .i64 n] w fun e w' => ∃ n' ao' len', e = .returned (.agg #[.bool n', .slice ao' len' len']) ∧ Num w.heap.size w' n' ao' len' n ∧ Below w.heap.size w w' := by
  have hx : n.natAbs < 18446744073709551616 := by omega
  have hok := ok_two _ hx
  have hval := hid (val_two n.natAbs)
  by_cases h0 : n < 0
  · have hw := u64_of_neg n h0 h1
    have hnum : num true [n.natAbs % 4294967296, n.natAbs / 4294967296] = n := by unfold num; rw [hval.out]; simp; omega
    have HN := hid hnum
    clear hnum
    go_enter Tryd.func24, Tryd.ntmps24
    go_wp2_with (first
      | (go_at_call 70; refine (limbsOf_any n.natAbs _ hx).mono ?_; rintro e w1 ⟨g, rfl, hg, hR, hb1⟩; have hR' := hR.whole hok 2 (by simp) (by omega))
      | (go_at_call 69; refine (give_any _ _ _ _ _ _ hR').mono ?_; rintro e w2 ⟨n', ao', len', rfl, hnum, hb⟩; obtain ⟨c0, c1, f0, f1⟩ := two_cells ((hb.block _ (by have := hb1.size; simp at this; omega)).trans (blk_keep hb1))))
    refine bodyPost_ret (v := .agg #[.bool n', .slice ao' len' len']) (by simp [results, Tryd.results24, go_sem, c0, c1]) rfl ⟨_, _, _, rfl, ?_, ?_⟩
    · rw [HN.out] at hnum
      exact ((hnum.set (by have := hb1.size; simp at this ⊢; omega) _).set (by have := hb1.size; simp at this ⊢; omega) _).mono (by have := hb1.size; simp at this ⊢; omega)
    · exact (((balloc hb1).trans (hb.mono (by have := hb1.size; simp at this ⊢; omega))).setCell (by simp) _).setCell (by simp) _
  · have hw : IntKind.u64.wrap n = ((n.natAbs : Nat) : Int) := by rw [IntKind.wrap_u64]; omega
    have hnum : num false [n.natAbs % 4294967296, n.natAbs / 4294967296] = n := by unfold num; rw [hval.out]; simp; omega
    have HN := hid hnum
    clear hnum
    go_enter Tryd.func24, Tryd.ntmps24
    go_wp2_with (first
      | (go_at_call 70; refine (limbsOf_any n.natAbs _ hx).mono ?_; rintro e w1 ⟨g, rfl, hg, hR, hb1⟩; have hR' := hR.whole hok 2 (by simp) (by omega))
      | (go_at_call 69; refine (give_any _ _ _ _ _ _ hR').mono ?_; rintro e w2 ⟨n', ao', len', rfl, hnum, hb⟩; obtain ⟨c0, c1, f0, f1⟩ := two_cells ((hb.block _ (by have := hb1.size; simp at this; omega)).trans (blk_keep hb1))))
    refine bodyPost_ret (v := .agg #[.bool n', .slice ao' len' len']) (by simp [results, Tryd.results24, go_sem, c0, c1]) rfl ⟨_, _, _, rfl, ?_, ?_⟩
    · rw [HN.out] at hnum
      exact ((hnum.set (by have := hb1.size; simp at this ⊢; omega) _).set (by have := hb1.size; simp at this ⊢; omega) _).mono (by have := hb1.size; simp at this ⊢; omega)
    · exact (((balloc hb1).trans (hb.mono (by have := hb1.size; simp at this ⊢; omega))).setCell (by simp) _).setCell (by simp) _

/-- An integer that the kind int holds. -/
def fits64 (v : Int) : Bool := decide (-9223372036854775808 ≤ v ∧ v ≤ 9223372036854775807)
def as64 (v : Int) : Int := if fits64 v then v else 0

theorem as64_out (v : Int) (h : fits64 v = false) : as64 v = 0 := by unfold as64; rw [h]; rfl
theorem as64_in (v : Int) (h : fits64 v = true) : as64 v = v := by unfold as64; rw [h]; rfl
theorem fits_big (n : Bool) (A : List Nat) (h : 2 < (tl A).length) : fits64 (num n A) = false := by
  have h1 := top_ge (tl_top A) (by intro e; rw [e] at h; simp at h)
  have h2 : P 2 ≤ P ((tl A).length - 1) := P_le (by omega)
  have e : P 2 = 18446744073709551616 := by decide
  rw [tl_val] at h1
  unfold fits64 num
  cases n <;> simp <;> omega
theorem take2_all (A : List Nat) (h : (tl A).length ≤ 2) : val ((tl A).take 2) = val A := by rw [List.take_of_length_le h, tl_val]
theorem val_lt2 (A : List Nat) (hA : Ok A) (h : (tl A).length ≤ 2) : val A < 18446744073709551616 := by
  rw [← take2_all A h]; exact take2_lt _ (tl_ok hA)
theorem neg_wrap (x : Nat) (h : x ≤ 9223372036854775808) : IntKind.i64.wrap (IntKind.u64.wrap (-(x : Int))) = -(x : Int) := by
  rw [IntKind.wrap_u64, IntKind.wrap_i64]; omega
theorem neg_wrap' (x : Nat) (h : x ≤ 9223372036854775808) : wrap64 (IntKind.u64.wrap (-(x : Int))) = -(x : Int) := by
  rw [IntKind.wrap_u64]; unfold wrap64; omega

set_option maxRecDepth 100000 in
set_option maxHeartbeats 1000000 in
theorem to_any (n : Bool) (ao : Option Addr) (len cap : Nat) (A : List Nat) (w : World) (h : Rd w ao len cap A) :
    Calls Tryd.prog 26 #[.agg #[.bool n, .slice ao len cap]] w fun e w' => e = .returned (.tuple #[.int .i64 (as64 (num n A)), .bool (fits64 (num n A))]) ∧ Below w.heap.size w w' := by
  by_cases h2 : 2 < (tl A).length
  · have hf := fits_big n A h2
    rw [as64_out _ hf, hf]
    clear hf
    go_enter Tryd.func26, Tryd.ntmps26
    go_wp2_with (go_at_call 71; refine (trim_any _ _ _ A _ (h.alloc _)).mono ?_; rintro e w' ⟨rfl, rfl⟩)
    go_ret2
    exact ⟨rfl, (Below.refl _ _).alloc (Nat.le_refl _) _⟩
  · have hle : (tl A).length ≤ 2 := by omega
    obtain ⟨x, hx⟩ : ∃ x, x = val A := ⟨_, rfl⟩
    have hlt := val_lt2 A h.ok hle
    have HT := hid (take2_all A hle)
    rw [← hx] at hlt
    have HX := hid hx
    have hnum : num n A = if n then -(x : Int) else (x : Int) := by unfold num; rw [hx]
    clear hx
    cases n with
    | false =>
      simp only [Bool.false_eq_true, if_false] at hnum
      rw [hnum]; clear hnum
      by_cases hb : x ≤ 9223372036854775807
      · have hf : fits64 (x : Int) = true := by unfold fits64; simp; omega
        rw [as64_in _ hf, hf]; clear hf
        go_enter Tryd.func26, Tryd.ntmps26
        go_wp2_with (first
          | (go_at_call 71; refine (trim_any _ _ _ A _ (h.alloc _)).mono ?_; rintro e w' ⟨rfl, rfl⟩)
          | (go_at_call 72; refine (wordOf_any _ _ _ _ _ (h.alloc _).tl).mono ?_; rintro e w' ⟨rfl, rfl⟩; rw [HT.out, ← HX.out])
          | go_in)
        go_ret2
        exact ⟨rfl, (Below.refl _ _).alloc (Nat.le_refl _) _⟩
      · have hf : fits64 (x : Int) = false := by unfold fits64; simp; omega
        rw [as64_out _ hf, hf]; clear hf
        go_enter Tryd.func26, Tryd.ntmps26
        go_wp2_with (first
          | (go_at_call 71; refine (trim_any _ _ _ A _ (h.alloc _)).mono ?_; rintro e w' ⟨rfl, rfl⟩)
          | (go_at_call 72; refine (wordOf_any _ _ _ _ _ (h.alloc _).tl).mono ?_; rintro e w' ⟨rfl, rfl⟩; rw [HT.out, ← HX.out])
          | go_in)
        go_ret2
        exact ⟨rfl, (Below.refl _ _).alloc (Nat.le_refl _) _⟩
    | true =>
      simp only [if_true] at hnum
      rw [hnum]; clear hnum
      by_cases hb : x ≤ 9223372036854775808
      · have hf : fits64 (-(x : Int)) = true := by unfold fits64; simp; omega
        rw [as64_in _ hf, hf]; clear hf
        have hw := neg_wrap' x hb
        have HW := hid hw; clear hw
        go_enter Tryd.func26, Tryd.ntmps26
        go_wp2_with (first
          | (go_at_call 71; refine (trim_any _ _ _ A _ (h.alloc _)).mono ?_; rintro e w' ⟨rfl, rfl⟩)
          | (go_at_call 72; refine (wordOf_any _ _ _ _ _ (h.alloc _).tl).mono ?_; rintro e w' ⟨rfl, rfl⟩; rw [HT.out, ← HX.out])
          | go_in)
        go_ret2
        refine ⟨?_, (Below.refl _ _).alloc (Nat.le_refl _) _⟩
        show Ending.returned (.tuple #[.int .i64 (wrap64 (IntKind.u64.wrap (-(x : Int)))), .bool true]) = _
        rw [HW.out]
      · have hf : fits64 (-(x : Int)) = false := by unfold fits64; simp; omega
        rw [as64_out _ hf, hf]; clear hf
        go_enter Tryd.func26, Tryd.ntmps26
        go_wp2_with (first
          | (go_at_call 71; refine (trim_any _ _ _ A _ (h.alloc _)).mono ?_; rintro e w' ⟨rfl, rfl⟩)
          | (go_at_call 72; refine (wordOf_any _ _ _ _ _ (h.alloc _).tl).mono ?_; rintro e w' ⟨rfl, rfl⟩; rw [HT.out, ← HX.out])
          | go_in)
        go_ret2
        exact ⟨rfl, (Below.refl _ _).alloc (Nat.le_refl _) _⟩

end Go.Proofs.YtldafoojkimdeaaDoor
