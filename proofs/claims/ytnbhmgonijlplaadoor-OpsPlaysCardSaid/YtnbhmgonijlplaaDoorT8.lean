/- Walks: a table that is none. No condition but those that each theorem names. -/
import Derived.Test.YtnbhmgonijlplaaDoorT7
namespace Go.Proofs.YtnbhmgonijlplaaDoor
open Go.RowKit

theorem sorted_none (w : World) : Calls Tryd.prog 46 #[.pointer none] w fun e w' => e = .returned (.slice none 0 0) ∧ w = w' := by
  go_enter Tryd.func46, Tryd.ntmps46
  go_wp2
  go_ret
  exact ⟨rfl, rfl⟩
theorem copy_none (w : World) : Calls Tryd.prog 11 #[.pointer none] w fun e w' => e = .returned (.pointer none) ∧ w = w' := by
  go_enter Tryd.func11, Tryd.ntmps11
  go_wp2
  go_ret
  exact ⟨rfl, rfl⟩
theorem add_none (p k : Int) (s : ByteArray) (w : World) : Calls Tryd.prog 14 #[.pointer none, .int .i64 p, .int .i64 k, .string s] w fun e w' => e = .returned (.int .i64 1) ∧ w = w' := by
  go_enter Tryd.func14, Tryd.ntmps14
  go_wp2
  go_ret
  exact ⟨rfl, rfl⟩
theorem find_nothing (c : Int) (s : ByteArray) (w : World) :
    Calls Tryd.prog 44 #[.pointer none, .int .i64 c, .string s] w fun e w' => e = .returned (.tuple #[.agg #[.string ⟨#[]⟩, .int .i64 0, .int .i64 0], .bool false]) ∧ Below w.heap.size w w' := find_none c s w
section
variable (s : ByteArray) (w : World)
set_option maxRecDepth 100000 in
theorem infix_none : Calls Tryd.prog 27 #[.pointer none, .string s] w fun e w' => e = .returned (.tuple #[.agg #[.string ⟨#[]⟩, .int .i64 0, .int .i64 0], .bool false]) ∧ Below w.heap.size w w' := by
  have HB := hid ((Below.refl w.heap.size w).alloc (Nat.le_refl _) (.cells #[.string ⟨#[]⟩, .int .i64 0, .int .i64 0] 39))
  have HR := hid (heap_alloc_new w (.cells #[.string ⟨#[]⟩, .int .i64 0, .int .i64 0] 39))
  go_enter Tryd.func27, Tryd.ntmps27
  go_wp2_with (go_at_call 44; (with_reducible refine (find_nothing _ _ _).mono ?_); rintro e w5 ⟨rfl, hb5⟩; have HR5 := hid (heap_keep3 HR.out hb5); obtain ⟨r0, r1, r2, f0, f1, f2⟩ := three_cells HR5.out)
  refine bodyPost_ret (v := .tuple #[.agg #[.string ⟨#[]⟩, .int .i64 0, .int .i64 0], .bool false]) (by simp [results, Tryd.results27, go_sem, r0, r1, r2]) rfl ⟨rfl, ?_⟩
  exact (((HB.out.trans (hb5.mono HB.out.size)).setCell (Nat.le_refl _) _).setCell (Nat.le_refl _) _).setCell (Nat.le_refl _) _
set_option maxRecDepth 100000 in
theorem postfix_none : Calls Tryd.prog 28 #[.pointer none, .string s] w fun e w' => e = .returned (.tuple #[.agg #[.string ⟨#[]⟩, .int .i64 0, .int .i64 0], .bool false]) ∧ Below w.heap.size w w' := by
  have HB := hid ((Below.refl w.heap.size w).alloc (Nat.le_refl _) (.cells #[.string ⟨#[]⟩, .int .i64 0, .int .i64 0] 39))
  have HR := hid (heap_alloc_new w (.cells #[.string ⟨#[]⟩, .int .i64 0, .int .i64 0] 39))
  go_enter Tryd.func28, Tryd.ntmps28
  go_wp2_with (go_at_call 44; (with_reducible refine (find_nothing _ _ _).mono ?_); rintro e w5 ⟨rfl, hb5⟩; have HR5 := hid (heap_keep3 HR.out hb5); obtain ⟨r0, r1, r2, f0, f1, f2⟩ := three_cells HR5.out)
  refine bodyPost_ret (v := .tuple #[.agg #[.string ⟨#[]⟩, .int .i64 0, .int .i64 0], .bool false]) (by simp [results, Tryd.results28, go_sem, r0, r1, r2]) rfl ⟨rfl, ?_⟩
  exact (((HB.out.trans (hb5.mono HB.out.size)).setCell (Nat.le_refl _) _).setCell (Nat.le_refl _) _).setCell (Nat.le_refl _) _
set_option maxRecDepth 100000 in
theorem pre_none : Calls Tryd.prog 31 #[.pointer none, .string s] w fun e w' => e = .returned (.tuple #[.agg #[.string ⟨#[]⟩, .int .i64 0, .int .i64 0], .bool false]) ∧ Below w.heap.size w w' := by
  have HB := hid ((Below.refl w.heap.size w).alloc (Nat.le_refl _) (.cells #[.string ⟨#[]⟩, .int .i64 0, .int .i64 0] 39))
  have HR := hid (heap_alloc_new w (.cells #[.string ⟨#[]⟩, .int .i64 0, .int .i64 0] 39))
  go_enter Tryd.func31, Tryd.ntmps31
  go_wp2_with (go_at_call 44; (with_reducible refine (find_nothing _ _ _).mono ?_); rintro e w5 ⟨rfl, hb5⟩; have HR5 := hid (heap_keep3 HR.out hb5); obtain ⟨r0, r1, r2, f0, f1, f2⟩ := three_cells HR5.out)
  refine bodyPost_ret (v := .tuple #[.agg #[.string ⟨#[]⟩, .int .i64 0, .int .i64 0], .bool false]) (by simp [results, Tryd.results31, go_sem, r0, r1, r2]) rfl ⟨rfl, ?_⟩
  exact (((HB.out.trans (hb5.mono HB.out.size)).setCell (Nat.le_refl _) _).setCell (Nat.le_refl _) _).setCell (Nat.le_refl _) _
end
theorem cls0 (w : World) : (Instr.index 79 (.agg #[.int .i64 1, .int .i64 2, .int .i64 3]) (.int .i64 0)).run Tryd.prog w = .ok (.int .i64 1) w := by kernel_rfl
theorem cls1 (w : World) : (Instr.index 79 (.agg #[.int .i64 1, .int .i64 2, .int .i64 3]) (.int .i64 1)).run Tryd.prog w = .ok (.int .i64 2) w := by kernel_rfl
theorem cls2 (w : World) : (Instr.index 79 (.agg #[.int .i64 1, .int .i64 2, .int .i64 3]) (.int .i64 2)).run Tryd.prog w = .ok (.int .i64 3) w := by kernel_rfl
set_option maxRecDepth 100000 in
set_option maxHeartbeats 2000000 in
theorem is_none (s : ByteArray) (w : World) : Calls Tryd.prog 29 #[.pointer none, .string s] w fun e w' => e = .returned (.bool false) ∧ Below w.heap.size w w' := by
  go_enter Tryd.func29, Tryd.ntmps29
  go_wp2
  go_loopw [10] (fun i wr => ∃ k : Nat, k ≤ 3 ∧ i = .int .i64 (k : Int) ∧ Below w.heap.size w wr) (fun i _ => 3 - (intOf i).toNat)
  case atStart => exact ⟨0, by omega, rfl, Below.refl _ _⟩
  case round =>
    obtain ⟨k, hk, rfl, hb⟩ := hrel
    have HB := hid hb
    clear hb
    rcases (show k = 0 ∨ k = 1 ∨ k = 2 ∨ k = 3 by omega) with rfl | rfl | rfl | rfl
    · have ix := cls0
      go_wp2_with (go_at_call 44; (with_reducible refine (find_nothing _ _ _).mono ?_); rintro e w5 ⟨rfl, hb5⟩)
      go_roundw
      case rel => exact ⟨1, by omega, rfl, (HB.out.trans (hb5.mono HB.out.size)).alloc (Nat.le_trans HB.out.size hb5.size) _⟩
      case measure => simp [intOf]
    · have ix := cls1
      go_wp2_with (go_at_call 44; (with_reducible refine (find_nothing _ _ _).mono ?_); rintro e w5 ⟨rfl, hb5⟩)
      go_roundw
      case rel => exact ⟨2, by omega, rfl, (HB.out.trans (hb5.mono HB.out.size)).alloc (Nat.le_trans HB.out.size hb5.size) _⟩
      case measure => simp [intOf]
    · have ix := cls2
      go_wp2_with (go_at_call 44; (with_reducible refine (find_nothing _ _ _).mono ?_); rintro e w5 ⟨rfl, hb5⟩)
      go_roundw
      case rel => exact ⟨3, by omega, rfl, (HB.out.trans (hb5.mono HB.out.size)).alloc (Nat.le_trans HB.out.size hb5.size) _⟩
      case measure => simp [intOf]
    · go_wp2
      go_ret
      exact ⟨rfl, HB.out⟩
theorem all30_none (w : World) : Calls Tryd.prog 30 #[.pointer none] w fun e w' => e = .returned (.func (.func 45) #[] #[.pointer (some ⟨w.heap.size, 0, none⟩)]) ∧ w' = w.alloc (.cells #[.pointer none] 24) := by
  go_enter Tryd.func30, Tryd.ntmps30
  go_wp2
  go_ret
  exact ⟨rfl, rfl⟩
end Go.Proofs.YtnbhmgonijlplaaDoor
