/- Walks: hasFieldsOfItsKind. No condition but those that each theorem names. -/
import Derived.Outline
import Derived.Test.YtkapejcbmonfkaaGreatDoorT2m
namespace Go.Proofs.YtkapejcbmonfkaaGreatDoor
open Go.RowKit

theorem la_zero (la : Nat) : ((la : Int) == 0) = decide (la = 0) := by
  rw [Bool.eq_iff_iff]
  simp
theorem ret_bool {a b : Bool} (h : a = b) : Ending.returned (.bool a) = .returned (.bool b) := by rw [h]
set_option maxRecDepth 100000 in
set_option maxHeartbeats 4000000 in
theorem fields_any (t : Tm) (p : Option Addr) (cap : Nat) (w : World) (hl : t.args.length ≤ maxLen) :
    Calls Tryz.prog 120 #[t.val p cap] w fun e w' => e = .returned (.bool (fieldsOk t)) ∧ Below w.heap.size w w' := by
  unfold maxLen at hl
  have hB := hid ((Below.refl w.heap.size w).alloc (Nat.le_refl _) (tobj t p cap))
  obtain ⟨x0, x1, x2, x3, x4, x5⟩ := six_of (heap_alloc_new w (tobj t p cap))
  unfold tobj at hB x0 x1 x2 x3 x4 x5
  unfold Tm.val
  unfold fieldsOk
  generalize t.kind = kd at *
  generalize t.name = nm at *
  generalize t.num = nu at *
  generalize t.bits = bi at *
  generalize t.var = va at *
  generalize t.args.length = la at *
  obtain ⟨q, hq⟩ : ∃ q, q = (decide (1 ≤ kd) && decide (kd ≤ 5) && (decide (kd = 2) || decide (kd = 5) || nm.toList.isEmpty) && (decide (kd = 3) || nu.toList.isEmpty) && (decide (kd = 4) || decide (bi = 0)) && (decide (kd = 1) || decide (va = 0)) && decide (0 ≤ va) && (if kd = 5 then decide (0 < la) && decide (la ≤ 64) else decide (la = 0))) := ⟨_, rfl⟩
  rw [← hq]
  have HQ := hid hq
  clear hq
  have hnm : nm.toList.isEmpty = true ∨ nm.toList.isEmpty = false := by cases nm.toList.isEmpty <;> simp
  have hnu : nu.toList.isEmpty = true ∨ nu.toList.isEmpty = false := by cases nu.toList.isEmpty <;> simp
  rcases (show kd < 1 ∨ 5 < kd ∨ kd = 1 ∨ kd = 2 ∨ kd = 3 ∨ kd = 4 ∨ kd = 5 by omega) with h | h | rfl | rfl | rfl | rfl | rfl
  · clear hnm hnu
    go_enter Tryz.func120, Tryz.ntmps120
    go_wp2
    go_ret
    exact ⟨ret_bool (by rw [HQ.out, decide_eq_false (show ¬ 1 ≤ kd by omega)]; simp), hB.out⟩
  · clear hnm hnu
    go_enter Tryz.func120, Tryz.ntmps120
    go_wp2
    go_ret
    exact ⟨ret_bool (by rw [HQ.out, decide_eq_false (show ¬ kd ≤ 5 by omega)]; simp), hB.out⟩
  · rcases hnm with hnm | hnm <;> rcases hnu with hnu | hnu
    all_goals
      go_enter Tryz.func120, Tryz.ntmps120
      go_wp2
      all_goals
        go_ret
        refine ⟨ret_bool ?_, hB.out⟩
        rw [HQ.out]
        clear hB HQ
        simp_all
        try first | omega | exact la_zero la
  · clear hnm <;> rcases hnu with hnu | hnu
    all_goals
      go_enter Tryz.func120, Tryz.ntmps120
      go_wp2
      all_goals
        go_ret
        refine ⟨ret_bool ?_, hB.out⟩
        rw [HQ.out]
        clear hB HQ
        simp_all
        try first | omega | exact la_zero la
  · rcases hnm with hnm | hnm <;> clear hnu
    all_goals
      go_enter Tryz.func120, Tryz.ntmps120
      go_wp2
      all_goals
        go_ret
        refine ⟨ret_bool ?_, hB.out⟩
        rw [HQ.out]
        clear hB HQ
        simp_all
        try first | omega | exact la_zero la
  · rcases hnm with hnm | hnm <;> rcases hnu with hnu | hnu
    all_goals
      go_enter Tryz.func120, Tryz.ntmps120
      go_wp2
      all_goals
        go_ret
        refine ⟨ret_bool ?_, hB.out⟩
        rw [HQ.out]
        clear hB HQ
        simp_all
        try first | omega | exact la_zero la
  · clear hnm <;> rcases hnu with hnu | hnu
    all_goals
      go_enter Tryz.func120, Tryz.ntmps120
      go_wp2
      all_goals
        go_ret
        refine ⟨ret_bool ?_, hB.out⟩
        rw [HQ.out]
        clear hB HQ
        simp_all
        try first | omega | exact la_zero la
end Go.Proofs.YtkapejcbmonfkaaGreatDoor
