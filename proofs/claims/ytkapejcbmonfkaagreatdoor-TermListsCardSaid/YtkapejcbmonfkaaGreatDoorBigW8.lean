/- Walks: fit, Sign, Bits, Cmp. -/
import Derived.Test.YtkapejcbmonfkaaGreatDoorBigW7
import Derived.Test.YtkapejcbmonfkaaGreatDoorBigW6
namespace Go.Proofs.YtkapejcbmonfkaaGreatDoor
open Go.RowKit Lm

set_option maxRecDepth 100000 in
set_option maxHeartbeats 1000000 in
theorem fit_any (n : Bool) (ao : Option Addr) (len cap : Nat) (A : List Nat) (w : World) (h : Rd w ao len cap A) :
    Calls Tryz.prog 161 #[.bool n, .slice ao len cap] w fun e w' => ∃ n' ao' len' c, e = .returned (.tuple #[.agg #[.bool n', .slice ao' len' len'], .int .i64 c]) ∧ Fits w w' n' ao' len' c (num n A) ∧ Below w.heap.size w w' := by
  have HV := hid (num_abs n A)
  have HT := hid (tl_val A)
  by_cases hbl : bl (val A) ≤ 4096
  · have hbl' : bl (val (tl A)) ≤ 4096 := by rw [HT.out]; exact hbl
    go_enter Tryz.func161, Tryz.ntmps161
    go_wp2_with (first
      | (go_at_call 172; refine (trim_any _ _ _ A _ (h.alloc _)).mono ?_; rintro e w' ⟨rfl, rfl⟩)
      | (go_at_call 171; refine (bitsOf_any _ _ _ _ _ (h.alloc _).tl (tl_top A)).mono ?_; rintro e w' ⟨rfl, rfl⟩)
      | (go_at_call 173; refine (give_any _ _ _ _ A _ (h.alloc _)).mono ?_; rintro e w1 ⟨n', ao', len', rfl, hnum, hb⟩; obtain ⟨c0, c1, f0, f1⟩ := two_cells (blk_keep hb)))
    refine bodyPost_ret (v := .tuple #[.agg #[.bool n', .slice ao' len' len'], .int .i64 0]) (by simp [results, Tryz.results161, go_sem, c0, c1]) rfl ⟨_, _, _, _, rfl, ?_, ?_⟩
    · refine .inl ⟨by rw [HV.out]; exact hbl, rfl, ?_⟩
      exact ((hnum.set (by simp) _).set (by simp) _).mono (by simp)
    · exact ((balloc hb).setCell (by simp) _).setCell (by simp) _
  · have hbl' : ¬ bl (val (tl A)) ≤ 4096 := by rw [HT.out]; exact hbl
    go_enter Tryz.func161, Tryz.ntmps161
    go_wp2_with (first
      | (go_at_call 172; refine (trim_any _ _ _ A _ (h.alloc _)).mono ?_; rintro e w' ⟨rfl, rfl⟩)
      | (go_at_call 171; refine (bitsOf_any _ _ _ _ _ (h.alloc _).tl (tl_top A)).mono ?_; rintro e w' ⟨rfl, rfl⟩))
    refine bodyPost_ret (v := .tuple #[.agg #[.bool false, .slice none 0 0], .int .i64 10]) (by simp [results, Tryz.results161, go_sem]) rfl ⟨_, _, _, _, rfl, ?_, ?_⟩
    · exact .inr ⟨by rw [HV.out]; omega, rfl, rfl, rfl, rfl⟩
    · exact (Below.refl _ _).alloc (Nat.le_refl _) _

theorem tl_nil (A : List Nat) : tl A = [] ↔ val A = 0 := by
  constructor
  · intro h; rw [← tl_val, h]; rfl
  · intro h; exact top_zero (tl_top A) (by rw [tl_val]; exact h)
theorem tl_len (A : List Nat) : (tl A).length = 0 ↔ val A = 0 := by rw [← tl_nil, List.length_eq_zero_iff]

theorem balloc2 {w w1 : World} {o o2 : Obj} (hb : Below ((w.alloc o).alloc o2).heap.size ((w.alloc o).alloc o2) w1) : Below w.heap.size w w1 := balloc (balloc hb)
theorem blk_keep2 {w w1 : World} {o o2 : Obj} (hb : Below ((w.alloc o).alloc o2).heap.size ((w.alloc o).alloc o2) w1) : w1.heap[w.heap.size + 1]? = some o2 := by
  have := blk_keep (w := w.alloc o) hb; simpa using this

theorem num_not (n : Bool) (A : List Nat) : num (!n) A = -num n A := by unfold num; cases n <;> simp

end Go.Proofs.YtkapejcbmonfkaaGreatDoor
