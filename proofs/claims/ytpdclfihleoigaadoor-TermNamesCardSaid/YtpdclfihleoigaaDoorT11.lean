/- Walks: cmp.Compare at strings and at ints, cmp.Or of two. No condition. -/
import Derived.Test.YtpdclfihleoigaaDoorT3
import Derived.Sort.Walk0
import Derived.Sort.Grow
import Derived.WalkLawsBesides
namespace Go.Proofs.YtpdclfihleoigaaDoor
open Go.RowKit Go.Sort

def cmpS (a b : List UInt8) : Int := if a < b then -1 else if b < a then 1 else 0
def cmpI (a b : Int) : Int := if a < b then -1 else if b < a then 1 else 0
theorem names_tri (a b : List UInt8) : a < b ∨ b < a ∨ a = b := by
  by_cases h : a < b
  · exact .inl h
  · by_cases k : b < a
    · exact .inr (.inl k)
    · exact .inr (.inr (List.le_antisymm (List.not_lt.1 k) (List.not_lt.1 h)))
theorem isNaN_any (s : ByteArray) (w : World) : Calls Tryd.prog 66 #[.string s] w fun e w' => e = .returned (.bool false) ∧ w = w' := by
  have h : (s.toList == s.toList) = true := by simp
  go_enter Tryd.func66, Tryd.ntmps66
  go_wp2
  go_ret
  exact ⟨by simp, rfl⟩
theorem or_first (b : Nat) (x y : Int) (w : World) (hx : x ≠ 0) (h0 : w.cell? ⟨b, 0, none⟩ = some (.int .i64 x)) : Calls Tryd.prog 52 #[.slice (some ⟨b, 0, none⟩) 2 2] w fun e w' => e = .returned (.int .i64 x) ∧ w = w' := by
  have hn : (x == 0) = false := by simpa using hx
  go_enter Tryd.func52, Tryd.ntmps52
  go_wp2
  refine wp_loop_rounds 1 ?_
  rw [rounds_succ]
  go_wp2
  go_ret
  exact ⟨rfl, rfl⟩
theorem or_second (b : Nat) (y : Int) (w : World) (hy : y ≠ 0) (h0 : w.cell? ⟨b, 0, none⟩ = some (.int .i64 0)) (h1 : w.cell? ⟨b, 1, none⟩ = some (.int .i64 y)) : Calls Tryd.prog 52 #[.slice (some ⟨b, 0, none⟩) 2 2] w fun e w' => e = .returned (.int .i64 y) ∧ w = w' := by
  have hn : (y == 0) = false := by simpa using hy
  go_enter Tryd.func52, Tryd.ntmps52
  go_wp2
  refine wp_loop_rounds 2 ?_
  rw [rounds_succ]
  go_wp2
  rw [rounds_succ]
  go_wp2
  go_ret
  exact ⟨rfl, rfl⟩
theorem or_none (b : Nat) (w : World) (h0 : w.cell? ⟨b, 0, none⟩ = some (.int .i64 0)) (h1 : w.cell? ⟨b, 1, none⟩ = some (.int .i64 0)) : Calls Tryd.prog 52 #[.slice (some ⟨b, 0, none⟩) 2 2] w fun e w' => e = .returned (.int .i64 0) ∧ w = w' := by
  go_enter Tryd.func52, Tryd.ntmps52
  go_wp2
  refine wp_loop_rounds 3 ?_
  rw [rounds_succ]
  go_wp2
  rw [rounds_succ]
  go_wp2
  rw [rounds_succ]
  go_wp2
  go_ret
  exact ⟨rfl, rfl⟩
set_option maxRecDepth 100000 in
theorem compareS_any (a b : ByteArray) (w : World) : Calls Tryd.prog 53 #[.string a, .string b] w fun e w' => e = .returned (.int .i64 (cmpS a.data.toList b.data.toList)) ∧ w = w' := by
  obtain ⟨z, hz⟩ : ∃ z, z = cmpS a.data.toList b.data.toList := ⟨_, rfl⟩
  rw [← hz]
  unfold cmpS at hz
  have e1 : Op.bytesLess a.toList b.toList = decide (a.data.toList < b.data.toList) := by rw [bytesLess_eq, Lib.toList_data, Lib.toList_data]
  have e2 : (a.toList == b.toList) = decide (a.data.toList = b.data.toList) := by rw [Lib.toList_data, Lib.toList_data, Bool.eq_iff_iff, beq_iff_eq, decide_eq_true_iff]
  rcases names_tri a.data.toList b.data.toList with h | h | h
  · rw [if_pos h] at hz
    subst hz
    have h1 : Op.bytesLess a.toList b.toList = true := by rw [e1]; exact decide_eq_true h
    clear e1 e2 h
    go_enter Tryd.func53, Tryd.ntmps53
    go_wp2_with (go_at_call 66; (with_reducible refine (isNaN_any _ _).mono ?_); rintro e w' ⟨rfl, rfl⟩)
    go_ret
    exact ⟨rfl, rfl⟩
  · have n1 : ¬ a.data.toList < b.data.toList := fun k => List.lt_irrefl _ (List.lt_trans h k)
    have n2 : ¬ a.data.toList = b.data.toList := fun k => List.lt_irrefl _ (k ▸ h)
    rw [if_neg n1, if_pos h] at hz
    subst hz
    have h1 : Op.bytesLess a.toList b.toList = false := by rw [e1]; exact decide_eq_false n1
    have h2 : (a.toList == b.toList) = false := by rw [e2]; exact decide_eq_false n2
    clear e1 e2 h n1 n2
    go_enter Tryd.func53, Tryd.ntmps53
    go_wp2_with (go_at_call 66; (with_reducible refine (isNaN_any _ _).mono ?_); rintro e w' ⟨rfl, rfl⟩)
    go_ret
    exact ⟨rfl, rfl⟩
  · have n1 : ¬ a.data.toList < b.data.toList := fun k => List.lt_irrefl _ (h ▸ k)
    have n3 : ¬ b.data.toList < a.data.toList := fun k => List.lt_irrefl _ (h ▸ k)
    rw [if_neg n1, if_neg n3] at hz
    subst hz
    have h1 : Op.bytesLess a.toList b.toList = false := by rw [e1]; exact decide_eq_false n1
    have h2 : (a.toList == b.toList) = true := by rw [e2]; exact decide_eq_true h
    clear e1 e2 h n1 n3
    go_enter Tryd.func53, Tryd.ntmps53
    go_wp2_with (go_at_call 66; (with_reducible refine (isNaN_any _ _).mono ?_); rintro e w' ⟨rfl, rfl⟩)
    go_ret
    exact ⟨rfl, rfl⟩
theorem isNaNI_any (s : Int) (w : World) : Calls Tryd.prog 54 #[.int .i64 s] w fun e w' => e = .returned (.bool false) ∧ w = w' := by
  have h : (s != s) = false := by simp
  go_enter Tryd.func54, Tryd.ntmps54
  go_wp2
  go_ret
  exact ⟨rfl, rfl⟩
set_option maxRecDepth 100000 in
theorem compareI_any (x y : Int) (w : World) : Calls Tryd.prog 36 #[.int .i64 x, .int .i64 y] w fun e w' => e = .returned (.int .i64 (cmpI x y)) ∧ w = w' := by
  obtain ⟨z, hz⟩ : ∃ z, z = cmpI x y := ⟨_, rfl⟩
  rw [← hz]
  unfold cmpI at hz
  rcases (show x < y ∨ y < x ∨ (¬ x < y ∧ ¬ y < x) by omega) with h | h | ⟨h, h2⟩
  · rw [if_pos h] at hz
    subst hz
    go_enter Tryd.func36, Tryd.ntmps36
    go_wp2_with (go_at_call 54; (with_reducible refine (isNaNI_any _ _).mono ?_); rintro e w' ⟨rfl, rfl⟩)
    go_ret
    exact ⟨rfl, rfl⟩
  · have h2 : ¬ x < y := by omega
    rw [if_neg h2, if_pos h] at hz
    subst hz
    go_enter Tryd.func36, Tryd.ntmps36
    go_wp2_with (go_at_call 54; (with_reducible refine (isNaNI_any _ _).mono ?_); rintro e w' ⟨rfl, rfl⟩)
    go_ret
    exact ⟨rfl, rfl⟩
  · rw [if_neg h, if_neg h2] at hz
    subst hz
    go_enter Tryd.func36, Tryd.ntmps36
    go_wp2_with (go_at_call 54; (with_reducible refine (isNaNI_any _ _).mono ?_); rintro e w' ⟨rfl, rfl⟩)
    go_ret
    exact ⟨rfl, rfl⟩
/-- The first that is not nought. -/
def orI (x y : Int) : Int := if x = 0 then y else x
theorem or_any (b : Nat) (x y : Int) (w : World) (h0 : w.cell? ⟨b, 0, none⟩ = some (.int .i64 x)) (h1 : w.cell? ⟨b, 1, none⟩ = some (.int .i64 y)) : Calls Tryd.prog 52 #[.slice (some ⟨b, 0, none⟩) 2 2] w fun e w' => e = .returned (.int .i64 (orI x y)) ∧ w = w' := by
  unfold orI
  by_cases hx : x = 0
  · subst hx
    rw [if_pos rfl]
    by_cases hy : y = 0
    · subst hy; exact or_none b w h0 h1
    · exact or_second b y w hy h0 h1
  · rw [if_neg hx]; exact or_first b x y w hx h0
theorem cells_two {W : World} {b : Nat} {u v : Value} {t : TypeId} (h : W.heap[b]? = some (.cells #[u, v] t (0, 0))) : W.cell? ⟨b, 0, none⟩ = some u ∧ W.cell? ⟨b, 1, none⟩ = some v := ⟨by simp [World.cell?, h], by simp [World.cell?, h]⟩
theorem pair_cells (W : World) (u v : Value) (t : TypeId) : (W.alloc (.cells #[u, v] t)).drew.cell? ⟨W.heap.size, 0, none⟩ = some u ∧ (W.alloc (.cells #[u, v] t)).drew.cell? ⟨W.heap.size, 1, none⟩ = some v :=
  cells_two (W := (W.alloc (.cells #[u, v] t)).drew) (heap_alloc_new W (.cells #[u, v] t))
end Go.Proofs.YtpdclfihleoigaaDoor
