/- Walks: fit, Sign, Bits, Cmp. -/
import Derived.Test.YtldafoojkimdeaaDoorW7
import Derived.Test.YtldafoojkimdeaaDoorW6
namespace Go.Proofs.YtldafoojkimdeaaDoor
open Go.RowKit Lm

set_option maxRecDepth 100000 in
set_option maxHeartbeats 1000000 in
theorem fit_any (n : Bool) (ao : Option Addr) (len cap : Nat) (A : List Nat) (w : World) (h : Rd w ao len cap A) :
    Calls Tryd.prog 78 #[.bool n, .slice ao len cap] w fun e w' => ∃ n' ao' len' c, e = .returned (.tuple #[.agg #[.bool n', .slice ao' len' len'], .int .i64 c]) ∧ Fits w w' n' ao' len' c (num n A) ∧ Below w.heap.size w w' := by
  have HV := hid (num_abs n A)
  have HT := hid (tl_val A)
  by_cases hbl : bl (val A) ≤ 4096
  · have hbl' : bl (val (tl A)) ≤ 4096 := by rw [HT.out]; exact hbl
    go_enter Tryd.func78, Tryd.ntmps78
    go_wp2_with (first
      | (go_at_call 71; refine (trim_any _ _ _ A _ (h.alloc _)).mono ?_; rintro e w' ⟨rfl, rfl⟩)
      | (go_at_call 75; refine (bitsOf_any _ _ _ _ _ (h.alloc _).tl (tl_top A)).mono ?_; rintro e w' ⟨rfl, rfl⟩)
      | (go_at_call 69; refine (give_any _ _ _ _ A _ (h.alloc _)).mono ?_; rintro e w1 ⟨n', ao', len', rfl, hnum, hb⟩; obtain ⟨c0, c1, f0, f1⟩ := two_cells (blk_keep hb)))
    refine bodyPost_ret (v := .tuple #[.agg #[.bool n', .slice ao' len' len'], .int .i64 0]) (by simp [results, Tryd.results78, go_sem, c0, c1]) rfl ⟨_, _, _, _, rfl, ?_, ?_⟩
    · refine .inl ⟨by rw [HV.out]; exact hbl, rfl, ?_⟩
      exact ((hnum.set (by simp) _).set (by simp) _).mono (by simp)
    · exact ((balloc hb).setCell (by simp) _).setCell (by simp) _
  · have hbl' : ¬ bl (val (tl A)) ≤ 4096 := by rw [HT.out]; exact hbl
    go_enter Tryd.func78, Tryd.ntmps78
    go_wp2_with (first
      | (go_at_call 71; refine (trim_any _ _ _ A _ (h.alloc _)).mono ?_; rintro e w' ⟨rfl, rfl⟩)
      | (go_at_call 75; refine (bitsOf_any _ _ _ _ _ (h.alloc _).tl (tl_top A)).mono ?_; rintro e w' ⟨rfl, rfl⟩))
    refine bodyPost_ret (v := .tuple #[.agg #[.bool false, .slice none 0 0], .int .i64 10]) (by simp [results, Tryd.results78, go_sem]) rfl ⟨_, _, _, _, rfl, ?_, ?_⟩
    · exact .inr ⟨by rw [HV.out]; omega, rfl, rfl, rfl, rfl⟩
    · exact (Below.refl _ _).alloc (Nat.le_refl _) _

theorem tl_nil (A : List Nat) : tl A = [] ↔ val A = 0 := by
  constructor
  · intro h; rw [← tl_val, h]; rfl
  · intro h; exact top_zero (tl_top A) (by rw [tl_val]; exact h)
theorem tl_len (A : List Nat) : (tl A).length = 0 ↔ val A = 0 := by rw [← tl_nil, List.length_eq_zero_iff]

set_option maxRecDepth 100000 in
set_option maxHeartbeats 1000000 in
theorem sign_any (n : Bool) (ao : Option Addr) (len cap : Nat) (A : List Nat) (w : World) (h : Rd w ao len cap A) :
    Calls Tryd.prog 28 #[.agg #[.bool n, .slice ao len cap]] w fun e w' => e = .returned (.int .i64 (num n A).sign) ∧ w.alloc (.cells #[.bool n, .slice ao len cap] 24) = w' := by
  by_cases h0 : val A = 0
  · have e : (num n A).sign = 0 := by unfold num; rw [h0]; cases n <;> rfl
    have hz := (tl_len A).2 h0
    rw [e]; clear e h0
    go_enter Tryd.func28, Tryd.ntmps28
    go_wp2_with (go_at_call 71; refine (trim_any _ _ _ A _ (h.alloc _)).mono ?_; rintro e w' ⟨rfl, rfl⟩)
    go_ret
    exact ⟨rfl, rfl⟩
  · have hz := mt (tl_len A).1 h0
    have hz' : (((tl A).length : Int) == 0) = false := by simp; exact fun e => hz (by rw [e]; rfl)
    cases n with
    | true =>
      have e : (num true A).sign = -1 := by
        show (-(val A : Int)).sign = -1
        rw [Int.sign_neg, Int.sign_eq_one_of_pos (by omega)]
      rw [e]; clear e
      go_enter Tryd.func28, Tryd.ntmps28
      go_wp2_with (go_at_call 71; refine (trim_any _ _ _ A _ (h.alloc _)).mono ?_; rintro e w' ⟨rfl, rfl⟩)
      go_ret
      exact ⟨rfl, rfl⟩
    | false =>
      have e : (num false A).sign = 1 := by
        show ((val A : Int)).sign = 1
        rw [Int.sign_eq_one_of_pos (by omega)]
      rw [e]; clear e
      go_enter Tryd.func28, Tryd.ntmps28
      go_wp2_with (go_at_call 71; refine (trim_any _ _ _ A _ (h.alloc _)).mono ?_; rintro e w' ⟨rfl, rfl⟩)
      go_ret
      exact ⟨rfl, rfl⟩

set_option maxRecDepth 100000 in
theorem bits_any (n : Bool) (ao : Option Addr) (len cap : Nat) (A : List Nat) (w : World) (h : Rd w ao len cap A) :
    Calls Tryd.prog 32 #[.agg #[.bool n, .slice ao len cap]] w fun e w' => e = .returned (.int .i64 (bl (val A) : Int)) ∧ Below w.heap.size w w' := by
  have HT := hid (tl_val A)
  go_enter Tryd.func32, Tryd.ntmps32
  go_wp2_with (first
    | (go_at_call 71; refine (trim_any _ _ _ A _ (h.alloc _)).mono ?_; rintro e w' ⟨rfl, rfl⟩)
    | (go_at_call 75; refine (bitsOf_any _ _ _ _ _ (h.alloc _).tl (tl_top A)).mono ?_; rintro e w' ⟨rfl, rfl⟩))
  go_ret
  exact ⟨by rw [HT.out]; rfl, (Below.refl _ _).alloc (Nat.le_refl _) _⟩

theorem balloc2 {w w1 : World} {o o2 : Obj} (hb : Below ((w.alloc o).alloc o2).heap.size ((w.alloc o).alloc o2) w1) : Below w.heap.size w w1 := balloc (balloc hb)
theorem blk_keep2 {w w1 : World} {o o2 : Obj} (hb : Below ((w.alloc o).alloc o2).heap.size ((w.alloc o).alloc o2) w1) : w1.heap[w.heap.size + 1]? = some o2 := by
  have := blk_keep (w := w.alloc o) hb; simpa using this

set_option maxRecDepth 100000 in
set_option maxHeartbeats 1000000 in
theorem norm_any (n : Bool) (ao : Option Addr) (len cap : Nat) (A : List Nat) (w : World) (h : Rd w ao len cap A) :
    Calls Tryd.prog 20 #[.agg #[.bool n, .slice ao len cap]] w fun e w' => ∃ n' ao' len', e = .returned (.agg #[.bool n', .slice ao' len' len']) ∧ Num w.heap.size w' n' ao' len' (num n A) ∧ Below w.heap.size w w' := by
  go_enter Tryd.func20, Tryd.ntmps20
  go_wp2_with (go_at_call 69; refine (give_any _ _ _ _ A _ ((h.alloc _).alloc _)).mono ?_; rintro e w1 ⟨n', ao', len', rfl, hnum, hb⟩; obtain ⟨c0, c1, f0, f1⟩ := two_cells (blk_keep2 hb))
  refine bodyPost_ret (v := .agg #[.bool n', .slice ao' len' len']) (by simp [results, Tryd.results20, go_sem, c0, c1]) rfl ⟨_, _, _, rfl, ?_, ?_⟩
  · exact ((hnum.set (by simp) _).set (by simp) _).mono (by simp; omega)
  · exact ((balloc2 hb).setCell (by simp) _).setCell (by simp) _

theorem num_not (n : Bool) (A : List Nat) : num (!n) A = -num n A := by unfold num; cases n <;> simp

set_option maxRecDepth 100000 in
set_option maxHeartbeats 1000000 in
theorem neg_any (n : Bool) (ao : Option Addr) (len cap : Nat) (A : List Nat) (w : World) (h : Rd w ao len cap A) :
    Calls Tryd.prog 22 #[.agg #[.bool n, .slice ao len cap]] w fun e w' => ∃ n' ao' len', e = .returned (.agg #[.bool n', .slice ao' len' len']) ∧ Num w.heap.size w' n' ao' len' (-num n A) ∧ Below w.heap.size w w' := by
  go_enter Tryd.func22, Tryd.ntmps22
  go_wp2_with (go_at_call 69; refine (give_any _ _ _ _ A _ ((h.alloc _).alloc _)).mono ?_; rintro e w1 ⟨n', ao', len', rfl, hnum, hb⟩; obtain ⟨c0, c1, f0, f1⟩ := two_cells (blk_keep2 hb))
  refine bodyPost_ret (v := .agg #[.bool n', .slice ao' len' len']) (by simp [results, Tryd.results22, go_sem, c0, c1]) rfl ⟨_, _, _, rfl, ?_, ?_⟩
  · rw [← num_not]; exact ((hnum.set (by simp) _).set (by simp) _).mono (by simp; omega)
  · exact ((balloc2 hb).setCell (by simp) _).setCell (by simp) _

end Go.Proofs.YtldafoojkimdeaaDoor
