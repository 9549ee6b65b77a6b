/- Walks: how two operators stand: cmp.Compare at strings, cmp.Or, the function by which sorted puts them in order. No condition. -/
import Derived.Test.YtnbhmgonijlplaaDoorT16
import Derived.Sort.Walk0
import Derived.Sort.Grow
import Derived.WalkLawsBesides
namespace Go.Proofs.YtnbhmgonijlplaaDoor
open Go.RowKit Go.Sort

theorem isNaN_any (s : ByteArray) (w : World) : Calls Tryd.prog 63 #[.string s] w fun e w' => e = .returned (.bool false) ∧ w = w' := by
  have h : (s.toList == s.toList) = true := by simp
  go_enter Tryd.func63, Tryd.ntmps63
  go_wp2
  go_ret
  exact ⟨by simp, rfl⟩
theorem or_first (b : Nat) (x y : Int) (w : World) (hx : x ≠ 0) (h0 : w.cell? ⟨b, 0, none⟩ = some (.int .i64 x)) : Calls Tryd.prog 55 #[.slice (some ⟨b, 0, none⟩) 2 2] w fun e w' => e = .returned (.int .i64 x) ∧ w = w' := by
  have hn : (x == 0) = false := by simpa using hx
  go_enter Tryd.func55, Tryd.ntmps55
  go_wp2
  refine wp_loop_rounds 1 ?_
  rw [rounds_succ]
  go_wp2
  go_ret
  exact ⟨rfl, rfl⟩
theorem or_second (b : Nat) (y : Int) (w : World) (hy : y ≠ 0) (h0 : w.cell? ⟨b, 0, none⟩ = some (.int .i64 0)) (h1 : w.cell? ⟨b, 1, none⟩ = some (.int .i64 y)) : Calls Tryd.prog 55 #[.slice (some ⟨b, 0, none⟩) 2 2] w fun e w' => e = .returned (.int .i64 y) ∧ w = w' := by
  have hn : (y == 0) = false := by simpa using hy
  go_enter Tryd.func55, Tryd.ntmps55
  go_wp2
  refine wp_loop_rounds 2 ?_
  rw [rounds_succ]
  go_wp2
  rw [rounds_succ]
  go_wp2
  go_ret
  exact ⟨rfl, rfl⟩
theorem or_none (b : Nat) (w : World) (h0 : w.cell? ⟨b, 0, none⟩ = some (.int .i64 0)) (h1 : w.cell? ⟨b, 1, none⟩ = some (.int .i64 0)) : Calls Tryd.prog 55 #[.slice (some ⟨b, 0, none⟩) 2 2] w fun e w' => e = .returned (.int .i64 0) ∧ w = w' := by
  go_enter Tryd.func55, Tryd.ntmps55
  go_wp2
  refine wp_loop_rounds 3 ?_
  rw [rounds_succ]
  go_wp2
  rw [rounds_succ]
  go_wp2
  rw [rounds_succ]
  go_wp2
  go_ret
  exact ⟨rfl, rfl⟩
set_option maxRecDepth 100000 in
theorem compareS_any (a b : ByteArray) (w : World) : Calls Tryd.prog 56 #[.string a, .string b] w fun e w' => e = .returned (.int .i64 (cmpS a.data.toList b.data.toList)) ∧ w = w' := by
  obtain ⟨z, hz⟩ : ∃ z, z = cmpS a.data.toList b.data.toList := ⟨_, rfl⟩
  rw [← hz]
  unfold cmpS at hz
  have e1 : Op.bytesLess a.toList b.toList = decide (a.data.toList < b.data.toList) := by rw [bytesLess_eq, Lib.toList_data, Lib.toList_data]
  have e2 : (a.toList == b.toList) = decide (a.data.toList = b.data.toList) := by rw [Lib.toList_data, Lib.toList_data, Bool.eq_iff_iff, beq_iff_eq, decide_eq_true_iff]
  rcases names_tri a.data.toList b.data.toList with h | h | h
  · rw [if_pos h] at hz
    subst hz
    have h1 : Op.bytesLess a.toList b.toList = true := by rw [e1]; exact decide_eq_true h
    clear e1 e2 h
    go_enter Tryd.func56, Tryd.ntmps56
    go_wp2_with (go_at_call 63; (with_reducible refine (isNaN_any _ _).mono ?_); rintro e w' ⟨rfl, rfl⟩)
    go_ret
    exact ⟨rfl, rfl⟩
  · have n1 : ¬ a.data.toList < b.data.toList := fun k => List.lt_irrefl _ (List.lt_trans h k)
    have n2 : ¬ a.data.toList = b.data.toList := fun k => List.lt_irrefl _ (k ▸ h)
    rw [if_neg n1, if_pos h] at hz
    subst hz
    have h1 : Op.bytesLess a.toList b.toList = false := by rw [e1]; exact decide_eq_false n1
    have h2 : (a.toList == b.toList) = false := by rw [e2]; exact decide_eq_false n2
    clear e1 e2 h n1 n2
    go_enter Tryd.func56, Tryd.ntmps56
    go_wp2_with (go_at_call 63; (with_reducible refine (isNaN_any _ _).mono ?_); rintro e w' ⟨rfl, rfl⟩)
    go_ret
    exact ⟨rfl, rfl⟩
  · have n1 : ¬ a.data.toList < b.data.toList := fun k => List.lt_irrefl _ (h ▸ k)
    have n3 : ¬ b.data.toList < a.data.toList := fun k => List.lt_irrefl _ (h ▸ k)
    rw [if_neg n1, if_neg n3] at hz
    subst hz
    have h1 : Op.bytesLess a.toList b.toList = false := by rw [e1]; exact decide_eq_false n1
    have h2 : (a.toList == b.toList) = true := by rw [e2]; exact decide_eq_true h
    clear e1 e2 h n1 n3
    go_enter Tryd.func56, Tryd.ntmps56
    go_wp2_with (go_at_call 63; (with_reducible refine (isNaN_any _ _).mono ?_); rintro e w' ⟨rfl, rfl⟩)
    go_ret
    exact ⟨rfl, rfl⟩
theorem isNaNI_any (s : Int) (w : World) : Calls Tryd.prog 64 #[.int .i64 s] w fun e w' => e = .returned (.bool false) ∧ w = w' := by
  have h : (s != s) = false := by simp
  go_enter Tryd.func64, Tryd.ntmps64
  go_wp2
  go_ret
  exact ⟨rfl, rfl⟩
set_option maxRecDepth 100000 in
theorem compareI_any (x y : Int) (w : World) : Calls Tryd.prog 57 #[.int .i64 x, .int .i64 y] w fun e w' => e = .returned (.int .i64 (cmpI x y)) ∧ w = w' := by
  obtain ⟨z, hz⟩ : ∃ z, z = cmpI x y := ⟨_, rfl⟩
  rw [← hz]
  unfold cmpI at hz
  rcases (show x < y ∨ y < x ∨ (¬ x < y ∧ ¬ y < x) by omega) with h | h | ⟨h, h2⟩
  · rw [if_pos h] at hz
    subst hz
    go_enter Tryd.func57, Tryd.ntmps57
    go_wp2_with (go_at_call 64; (with_reducible refine (isNaNI_any _ _).mono ?_); rintro e w' ⟨rfl, rfl⟩)
    go_ret
    exact ⟨rfl, rfl⟩
  · have h2 : ¬ x < y := by omega
    rw [if_neg h2, if_pos h] at hz
    subst hz
    go_enter Tryd.func57, Tryd.ntmps57
    go_wp2_with (go_at_call 64; (with_reducible refine (isNaNI_any _ _).mono ?_); rintro e w' ⟨rfl, rfl⟩)
    go_ret
    exact ⟨rfl, rfl⟩
  · rw [if_neg h, if_neg h2] at hz
    subst hz
    go_enter Tryd.func57, Tryd.ntmps57
    go_wp2_with (go_at_call 64; (with_reducible refine (isNaNI_any _ _).mono ?_); rintro e w' ⟨rfl, rfl⟩)
    go_ret
    exact ⟨rfl, rfl⟩
/-- The first that is not nought. -/
def orI (x y : Int) : Int := if x = 0 then y else x
theorem or_any (b : Nat) (x y : Int) (w : World) (h0 : w.cell? ⟨b, 0, none⟩ = some (.int .i64 x)) (h1 : w.cell? ⟨b, 1, none⟩ = some (.int .i64 y)) : Calls Tryd.prog 55 #[.slice (some ⟨b, 0, none⟩) 2 2] w fun e w' => e = .returned (.int .i64 (orI x y)) ∧ w = w' := by
  unfold orI
  by_cases hx : x = 0
  · subst hx
    rw [if_pos rfl]
    by_cases hy : y = 0
    · subst hy; exact or_none b w h0 h1
    · exact or_second b y w hy h0 h1
  · rw [if_neg hx]; exact or_first b x y w hx h0
theorem cells_two {W : World} {b : Nat} {u v : Value} {t : TypeId} (h : W.heap[b]? = some (.cells #[u, v] t (0, 0))) : W.cell? ⟨b, 0, none⟩ = some u ∧ W.cell? ⟨b, 1, none⟩ = some v := ⟨by simp [World.cell?, h], by simp [World.cell?, h]⟩
theorem pair_cells (W : World) (u v : Value) (t : TypeId) : (W.alloc (.cells #[u, v] t)).drew.cell? ⟨W.heap.size, 0, none⟩ = some u ∧ (W.alloc (.cells #[u, v] t)).drew.cell? ⟨W.heap.size, 1, none⟩ = some v :=
  cells_two (W := (W.alloc (.cells #[u, v] t)).drew) (heap_alloc_new W (.cells #[u, v] t))
def GrownFrom (w w' : World) : Prop := ∃ q os, w' = grow (w.drewN q) os
theorem grown_one (w : World) (a b c : Obj) : GrownFrom w ((((w.alloc a).alloc b).alloc c).drew) :=
  ⟨1, #[a, b, c], by rw [alloc_eq_grow, alloc_eq_grow, alloc_eq_grow, grow_grow, grow_grow, drew_grow]; rfl⟩
set_option maxRecDepth 100000 in
set_option maxHeartbeats 2000000 in
theorem cmp_any (x y : Opn) (w : World) : Calls Tryd.prog 54 #[x.val, y.val] w fun e w' => e = .returned (.int .i64 (cfo x y)) ∧ GrownFrom w w' := by
  obtain ⟨n1, t1, p1⟩ := x
  obtain ⟨n2, t2, p2⟩ := y
  unfold Opn.val
  simp only
  obtain ⟨z, hz⟩ : ∃ z, z = cfo ⟨n1, t1, p1⟩ ⟨n2, t2, p2⟩ := ⟨_, rfl⟩
  rw [← hz]
  unfold cfo nm at hz
  simp only at hz
  have HZ : Hid (orI (cmpS n1.data.toList n2.data.toList) (cmpI (cls t1) (cls t2)) = z) := hid (by rw [hz]; rfl)
  clear hz
  have CS := hid (compareS_any n1 n2)
  have CI := hid (compareI_any (cls t1) (cls t2))
  generalize cmpS n1.data.toList n2.data.toList = s at *
  generalize cmpI (cls t1) (cls t2) = i at *
  go_enter Tryd.func54, Tryd.ntmps54
  go_wp2_with fail
  obtain ⟨wz, hwz⟩ : ∃ wz, wz = (w.alloc (.cells #[.string n1, .int .i64 t1, .int .i64 p1] 39)).alloc (.cells #[.string n2, .int .i64 t2, .int .i64 p2] 39) := ⟨_, rfl⟩
  have x1 : wz.heap[w.heap.size]? = some (.cells #[.string n1, .int .i64 t1, .int .i64 p1] 39 (0, 0)) := by rw [hwz]; exact heap_keep3 (heap_alloc_new w _) ((Below.refl _ _).alloc (Nat.le_refl _) _)
  have x2 : wz.heap[w.heap.size + 1]? = some (.cells #[.string n2, .int .i64 t2, .int .i64 p2] 39 (0, 0)) := by
    rw [hwz]; have := heap_alloc_new (w.alloc (.cells #[.string n1, .int .i64 t1, .int .i64 p1] 39)) (.cells #[.string n2, .int .i64 t2, .int .i64 p2] 39); simpa using this
  have HW := hid hwz
  rw [← hwz]
  clear hwz
  obtain ⟨c0, c1, _, _, _, _⟩ := three_cells x1
  obtain ⟨c2, c3, _, _, _, _⟩ := three_cells x2
  have HX1 := hid x1
  have HX2 := hid x2
  clear x1 x2
  have d0 := show wz.drew.cell? ⟨w.heap.size, 0, none⟩ = _ from c0
  have d1 := show wz.drew.cell? ⟨w.heap.size, 1, none⟩ = _ from c1
  have d2 := show wz.drew.cell? ⟨w.heap.size + 1, 0, none⟩ = _ from c2
  have d3 := show wz.drew.cell? ⟨w.heap.size + 1, 1, none⟩ = _ from c3
  have PC := hid (pair_cells wz (.int .i64 s) (.int .i64 i) 3)
  have hbz := (Below.refl wz.heap.size wz).alloc (Nat.le_refl _) (.cells #[.int .i64 s, .int .i64 i] 3)
  have e0 := show (wz.alloc (.cells #[.int .i64 s, .int .i64 i] 3)).drew.cell? ⟨w.heap.size, 0, none⟩ = _ from heap_cell_keep (w' := wz.alloc (.cells #[.int .i64 s, .int .i64 i] 3)) hbz c0
  have e1 := show (wz.alloc (.cells #[.int .i64 s, .int .i64 i] 3)).drew.cell? ⟨w.heap.size, 1, none⟩ = _ from heap_cell_keep (w' := wz.alloc (.cells #[.int .i64 s, .int .i64 i] 3)) hbz c1
  have e2 := show (wz.alloc (.cells #[.int .i64 s, .int .i64 i] 3)).drew.cell? ⟨w.heap.size + 1, 0, none⟩ = _ from heap_cell_keep (w' := wz.alloc (.cells #[.int .i64 s, .int .i64 i] 3)) hbz c2
  have e3 := show (wz.alloc (.cells #[.int .i64 s, .int .i64 i] 3)).drew.cell? ⟨w.heap.size + 1, 1, none⟩ = _ from heap_cell_keep (w' := wz.alloc (.cells #[.int .i64 s, .int .i64 i] 3)) hbz c3
  clear hbz
  go_region_held3 (fun w' => w'.cell? ⟨w.heap.size, 0, none⟩ = some (.string n1) ∧ w'.cell? ⟨w.heap.size, 1, none⟩ = some (.int .i64 t1) ∧ w'.cell? ⟨w.heap.size + 1, 0, none⟩ = some (.string n2) ∧ w'.cell? ⟨w.heap.size + 1, 1, none⟩ = some (.int .i64 t2))
    (first
      | (with_reducible exact ⟨c0, c1, c2, c3⟩)
      | (with_reducible exact ⟨d0, d1, d2, d3⟩)
      | (with_reducible exact ⟨e0, e1, e2, e3⟩))
    (first
      | (go_at_call 56; (with_reducible refine (CS.out _).mono ?_); rintro e w5 ⟨rfl, rfl⟩)
      | (go_at_call 37; (with_reducible refine (classOf_any _ _).mono ?_); rintro e w5 ⟨rfl, rfl⟩)
      | (go_at_call 57; (with_reducible refine (CI.out _).mono ?_); rintro e w5 ⟨rfl, rfl⟩)
      | (go_at_call 55; (with_reducible refine (or_any _ s i _ PC.out.1 PC.out.2).mono ?_); rintro e w5 ⟨rfl, rfl⟩))
  go_wp2
  go_ret
  refine ⟨?_, ?_⟩
  · first | rfl | (rw [HZ.out]; rfl)
  · rw [HW.out]
    exact grown_one w _ _ _
end Go.Proofs.YtnbhmgonijlplaaDoor
