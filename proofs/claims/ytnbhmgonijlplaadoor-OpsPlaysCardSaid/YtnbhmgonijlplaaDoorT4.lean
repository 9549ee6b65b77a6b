/- Walks: Word, Type, side, Sides over the table of words. No condition but those that each theorem names. -/
import Derived.Test.YtnbhmgonijlplaaDoorT3
import Derived.LoopTactic
namespace Go.Proofs.YtnbhmgonijlplaaDoor
open Go.RowKit

/-- The word of a type; the empty text of none. -/
def wd (k : Int) : ByteArray :=
  if k = 1 then ⟨#[102, 120]⟩ else if k = 2 then ⟨#[102, 121]⟩ else if k = 3 then ⟨#[120, 102, 120]⟩ else if k = 4 then ⟨#[120, 102, 121]⟩
  else if k = 5 then ⟨#[121, 102, 120]⟩ else if k = 6 then ⟨#[120, 102]⟩ else if k = 7 then ⟨#[121, 102]⟩ else ⟨#[]⟩
/-- The type of a word; 0: it is none. -/
def ty (s : ByteArray) : Int :=
  if s = ⟨#[102, 120]⟩ then 1 else if s = ⟨#[102, 121]⟩ then 2 else if s = ⟨#[120, 102, 120]⟩ then 3 else if s = ⟨#[120, 102, 121]⟩ then 4
  else if s = ⟨#[121, 102, 120]⟩ then 5 else if s = ⟨#[120, 102]⟩ then 6 else if s = ⟨#[121, 102]⟩ then 7 else 0

/-- The program's table of words lies as its text lays it. -/
structure Words (w : World) : Prop where
  c0 : w.cell? ⟨0, 0, none⟩ = some (.string ⟨#[]⟩)
  c1 : w.cell? ⟨0, 1, none⟩ = some (.string ⟨#[102, 120]⟩)
  c2 : w.cell? ⟨0, 2, none⟩ = some (.string ⟨#[102, 121]⟩)
  c3 : w.cell? ⟨0, 3, none⟩ = some (.string ⟨#[120, 102, 120]⟩)
  c4 : w.cell? ⟨0, 4, none⟩ = some (.string ⟨#[120, 102, 121]⟩)
  c5 : w.cell? ⟨0, 5, none⟩ = some (.string ⟨#[121, 102, 120]⟩)
  c6 : w.cell? ⟨0, 6, none⟩ = some (.string ⟨#[120, 102]⟩)
  c7 : w.cell? ⟨0, 7, none⟩ = some (.string ⟨#[121, 102]⟩)
theorem Words.lt {w : World} (h : Words w) : 0 < w.heap.size := by
  have := World.block_lt_of_cell? w _ h.c0
  simpa using this
theorem Words.keep {w w' : World} {n : Nat} (h : Words w) (hn : 0 < n) (hb : Below n w w') : Words w' := by
  obtain ⟨c0, c1, c2, c3, c4, c5, c6, c7⟩ := h
  constructor
  · exact (hb.cell (p := ⟨0, 0, none⟩) hn).trans c0
  · exact (hb.cell (p := ⟨0, 1, none⟩) hn).trans c1
  · exact (hb.cell (p := ⟨0, 2, none⟩) hn).trans c2
  · exact (hb.cell (p := ⟨0, 3, none⟩) hn).trans c3
  · exact (hb.cell (p := ⟨0, 4, none⟩) hn).trans c4
  · exact (hb.cell (p := ⟨0, 5, none⟩) hn).trans c5
  · exact (hb.cell (p := ⟨0, 6, none⟩) hn).trans c6
  · exact (hb.cell (p := ⟨0, 7, none⟩) hn).trans c7

set_option maxRecDepth 100000 in
set_option maxHeartbeats 2000000 in
theorem word_any (k : Int) (w : World) (hw : Words w) : Calls Tryd.prog 23 #[.int .i64 k] w fun e w' => e = .returned (.string (wd k)) ∧ w = w' := by
  obtain ⟨c0, c1, c2, c3, c4, c5, c6, c7⟩ := hw
  rcases (show k = 0 ∨ k = 1 ∨ k = 2 ∨ k = 3 ∨ k = 4 ∨ k = 5 ∨ k = 6 ∨ k = 7 ∨ k < 0 ∨ 8 ≤ k by omega) with rfl | rfl | rfl | rfl | rfl | rfl | rfl | rfl | h | h
  case inr.inr.inr.inr.inr.inr.inr.inr.inl =>
    have e : Hid (wd k = ⟨#[]⟩) := hid (by unfold wd; rw [if_neg (by omega), if_neg (by omega), if_neg (by omega), if_neg (by omega), if_neg (by omega), if_neg (by omega), if_neg (by omega)])
    rw [e.out]
    go_enter Tryd.func23, Tryd.ntmps23
    go_wp2
    all_goals (go_ret; exact ⟨rfl, rfl⟩)
  case inr.inr.inr.inr.inr.inr.inr.inr.inr =>
    have e : Hid (wd k = ⟨#[]⟩) := hid (by unfold wd; rw [if_neg (by omega), if_neg (by omega), if_neg (by omega), if_neg (by omega), if_neg (by omega), if_neg (by omega), if_neg (by omega)])
    rw [e.out]
    have h0 : ¬ k < 0 := by omega
    go_enter Tryd.func23, Tryd.ntmps23
    go_wp2
    all_goals (go_ret; exact ⟨rfl, rfl⟩)
  all_goals
    go_enter Tryd.func23, Tryd.ntmps23
    go_wp2
    go_ret
    exact ⟨rfl, rfl⟩

/-- The word of a number, among the eight; how a text compares with each. -/
theorem ty_at (s : ByteArray) (k : Nat) (hk : k < 8) (hno : ∀ j : Nat, j < k → wd j ≠ s) (h : wd k = s) : ty s = k := by
  subst h
  rcases (show k = 0 ∨ k = 1 ∨ k = 2 ∨ k = 3 ∨ k = 4 ∨ k = 5 ∨ k = 6 ∨ k = 7 by omega) with rfl | rfl | rfl | rfl | rfl | rfl | rfl | rfl <;> decide
theorem ty_no (s : ByteArray) (hno : ∀ j : Nat, j < 8 → wd j ≠ s) : ty s = 0 := by
  unfold ty
  have h1 : s ≠ ⟨#[102, 120]⟩ := fun e => hno 1 (by omega) e.symm
  have h2 : s ≠ ⟨#[102, 121]⟩ := fun e => hno 2 (by omega) e.symm
  have h3 : s ≠ ⟨#[120, 102, 120]⟩ := fun e => hno 3 (by omega) e.symm
  have h4 : s ≠ ⟨#[120, 102, 121]⟩ := fun e => hno 4 (by omega) e.symm
  have h5 : s ≠ ⟨#[121, 102, 120]⟩ := fun e => hno 5 (by omega) e.symm
  have h6 : s ≠ ⟨#[120, 102]⟩ := fun e => hno 6 (by omega) e.symm
  have h7 : s ≠ ⟨#[121, 102]⟩ := fun e => hno 7 (by omega) e.symm
  rw [if_neg h1, if_neg h2, if_neg h3, if_neg h4, if_neg h5, if_neg h6, if_neg h7]

theorem idx0 (w : World) : (Instr.index 78 (.agg #[.string ⟨#[]⟩, .string ⟨#[102, 120]⟩, .string ⟨#[102, 121]⟩, .string ⟨#[120, 102, 120]⟩, .string ⟨#[120, 102, 121]⟩, .string ⟨#[121, 102, 120]⟩, .string ⟨#[120, 102]⟩, .string ⟨#[121, 102]⟩]) (.int .i64 0)).run Tryd.prog w = .ok (.string ⟨#[]⟩) w := by kernel_rfl
theorem idx1 (w : World) : (Instr.index 78 (.agg #[.string ⟨#[]⟩, .string ⟨#[102, 120]⟩, .string ⟨#[102, 121]⟩, .string ⟨#[120, 102, 120]⟩, .string ⟨#[120, 102, 121]⟩, .string ⟨#[121, 102, 120]⟩, .string ⟨#[120, 102]⟩, .string ⟨#[121, 102]⟩]) (.int .i64 1)).run Tryd.prog w = .ok (.string ⟨#[102, 120]⟩) w := by kernel_rfl
theorem idx2 (w : World) : (Instr.index 78 (.agg #[.string ⟨#[]⟩, .string ⟨#[102, 120]⟩, .string ⟨#[102, 121]⟩, .string ⟨#[120, 102, 120]⟩, .string ⟨#[120, 102, 121]⟩, .string ⟨#[121, 102, 120]⟩, .string ⟨#[120, 102]⟩, .string ⟨#[121, 102]⟩]) (.int .i64 2)).run Tryd.prog w = .ok (.string ⟨#[102, 121]⟩) w := by kernel_rfl
theorem idx3 (w : World) : (Instr.index 78 (.agg #[.string ⟨#[]⟩, .string ⟨#[102, 120]⟩, .string ⟨#[102, 121]⟩, .string ⟨#[120, 102, 120]⟩, .string ⟨#[120, 102, 121]⟩, .string ⟨#[121, 102, 120]⟩, .string ⟨#[120, 102]⟩, .string ⟨#[121, 102]⟩]) (.int .i64 3)).run Tryd.prog w = .ok (.string ⟨#[120, 102, 120]⟩) w := by kernel_rfl
theorem idx4 (w : World) : (Instr.index 78 (.agg #[.string ⟨#[]⟩, .string ⟨#[102, 120]⟩, .string ⟨#[102, 121]⟩, .string ⟨#[120, 102, 120]⟩, .string ⟨#[120, 102, 121]⟩, .string ⟨#[121, 102, 120]⟩, .string ⟨#[120, 102]⟩, .string ⟨#[121, 102]⟩]) (.int .i64 4)).run Tryd.prog w = .ok (.string ⟨#[120, 102, 121]⟩) w := by kernel_rfl
theorem idx5 (w : World) : (Instr.index 78 (.agg #[.string ⟨#[]⟩, .string ⟨#[102, 120]⟩, .string ⟨#[102, 121]⟩, .string ⟨#[120, 102, 120]⟩, .string ⟨#[120, 102, 121]⟩, .string ⟨#[121, 102, 120]⟩, .string ⟨#[120, 102]⟩, .string ⟨#[121, 102]⟩]) (.int .i64 5)).run Tryd.prog w = .ok (.string ⟨#[121, 102, 120]⟩) w := by kernel_rfl
theorem idx6 (w : World) : (Instr.index 78 (.agg #[.string ⟨#[]⟩, .string ⟨#[102, 120]⟩, .string ⟨#[102, 121]⟩, .string ⟨#[120, 102, 120]⟩, .string ⟨#[120, 102, 121]⟩, .string ⟨#[121, 102, 120]⟩, .string ⟨#[120, 102]⟩, .string ⟨#[121, 102]⟩]) (.int .i64 6)).run Tryd.prog w = .ok (.string ⟨#[120, 102]⟩) w := by kernel_rfl
theorem idx7 (w : World) : (Instr.index 78 (.agg #[.string ⟨#[]⟩, .string ⟨#[102, 120]⟩, .string ⟨#[102, 121]⟩, .string ⟨#[120, 102, 120]⟩, .string ⟨#[120, 102, 121]⟩, .string ⟨#[121, 102, 120]⟩, .string ⟨#[120, 102]⟩, .string ⟨#[121, 102]⟩]) (.int .i64 7)).run Tryd.prog w = .ok (.string ⟨#[121, 102]⟩) w := by kernel_rfl
theorem is_str (s : ByteArray) (l : List UInt8) : (l == s.toList) = decide (s = ⟨l.toArray⟩) := by rw [BEq.comm, str_is]
theorem emp_is (s : ByteArray) : s.toList.isEmpty = decide (s = ⟨#[]⟩) := by
  have h : s.toList.isEmpty = (s.toList == []) := by cases s.toList <;> rfl
  rw [h, str_is]
set_option maxRecDepth 100000 in
set_option maxHeartbeats 4000000 in
theorem type_any (s : ByteArray) (w : World) (hw : Words w) : Calls Tryd.prog 21 #[.string s] w fun e w' => e = .returned (.int .i64 (ty s)) ∧ w = w' := by
  obtain ⟨c0, c1, c2, c3, c4, c5, c6, c7⟩ := hw
  go_enter Tryd.func21, Tryd.ntmps21
  go_wp2
  clear c0 c1 c2 c3 c4 c5 c6 c7
  go_loop [3, 4, 6] (fun _ _ i => ∃ k : Nat, k ≤ 8 ∧ i = .int .i64 k ∧ Hid (∀ j : Nat, j < k → wd j ≠ s)) (fun _ _ i => 8 - (intOf i).toNat)
  case atStart => exact ⟨0, by omega, rfl, hid (fun j hj => by omega)⟩
  case round =>
    obtain ⟨k, hk, rfl, hno⟩ := hrel
    rcases (show k = 0 ∨ k = 1 ∨ k = 2 ∨ k = 3 ∨ k = 4 ∨ k = 5 ∨ k = 6 ∨ k = 7 ∨ k = 8 by omega) with rfl | rfl | rfl | rfl | rfl | rfl | rfl | rfl | rfl
    · have ix := idx0
      by_cases h : s = ⟨#[]⟩
      · have ht : s.toList.isEmpty = true := by rw [emp_is s]; exact decide_eq_true h
        have e := hid (ty_at s 0 (by omega) hno.out h.symm)
        clear h
        go_wp2
        go_ret
        exact ⟨by rw [e.out]; rfl, rfl⟩
      · have ht : s.toList.isEmpty = false := by rw [emp_is s]; exact decide_eq_false h
        have e : Hid (∀ j : Nat, j < 1 → wd j ≠ s) := hid (fun j hj => by
          rcases (show j < 0 ∨ j = 0 by omega) with h1 | rfl
          · exact hno.out j h1
          · exact fun x => h x.symm)
        clear h
        go_wp2
        go_round
        case rel => exact ⟨1, by omega, rfl, e⟩
        case measure => simp [intOf]
    · have ix := idx1
      by_cases h : s = ⟨#[102, 120]⟩
      · have ht : ([102, 120] == s.toList) = true := by rw [is_str s [102, 120]]; exact decide_eq_true h
        have e := hid (ty_at s 1 (by omega) hno.out h.symm)
        clear h
        go_wp2
        go_ret
        exact ⟨by rw [e.out]; rfl, rfl⟩
      · have ht : ([102, 120] == s.toList) = false := by rw [is_str s [102, 120]]; exact decide_eq_false h
        have e : Hid (∀ j : Nat, j < 2 → wd j ≠ s) := hid (fun j hj => by
          rcases (show j < 1 ∨ j = 1 by omega) with h1 | rfl
          · exact hno.out j h1
          · exact fun x => h x.symm)
        clear h
        go_wp2
        go_round
        case rel => exact ⟨2, by omega, rfl, e⟩
        case measure => simp [intOf]
    · have ix := idx2
      by_cases h : s = ⟨#[102, 121]⟩
      · have ht : ([102, 121] == s.toList) = true := by rw [is_str s [102, 121]]; exact decide_eq_true h
        have e := hid (ty_at s 2 (by omega) hno.out h.symm)
        clear h
        go_wp2
        go_ret
        exact ⟨by rw [e.out]; rfl, rfl⟩
      · have ht : ([102, 121] == s.toList) = false := by rw [is_str s [102, 121]]; exact decide_eq_false h
        have e : Hid (∀ j : Nat, j < 3 → wd j ≠ s) := hid (fun j hj => by
          rcases (show j < 2 ∨ j = 2 by omega) with h1 | rfl
          · exact hno.out j h1
          · exact fun x => h x.symm)
        clear h
        go_wp2
        go_round
        case rel => exact ⟨3, by omega, rfl, e⟩
        case measure => simp [intOf]
    · have ix := idx3
      by_cases h : s = ⟨#[120, 102, 120]⟩
      · have ht : ([120, 102, 120] == s.toList) = true := by rw [is_str s [120, 102, 120]]; exact decide_eq_true h
        have e := hid (ty_at s 3 (by omega) hno.out h.symm)
        clear h
        go_wp2
        go_ret
        exact ⟨by rw [e.out]; rfl, rfl⟩
      · have ht : ([120, 102, 120] == s.toList) = false := by rw [is_str s [120, 102, 120]]; exact decide_eq_false h
        have e : Hid (∀ j : Nat, j < 4 → wd j ≠ s) := hid (fun j hj => by
          rcases (show j < 3 ∨ j = 3 by omega) with h1 | rfl
          · exact hno.out j h1
          · exact fun x => h x.symm)
        clear h
        go_wp2
        go_round
        case rel => exact ⟨4, by omega, rfl, e⟩
        case measure => simp [intOf]
    · have ix := idx4
      by_cases h : s = ⟨#[120, 102, 121]⟩
      · have ht : ([120, 102, 121] == s.toList) = true := by rw [is_str s [120, 102, 121]]; exact decide_eq_true h
        have e := hid (ty_at s 4 (by omega) hno.out h.symm)
        clear h
        go_wp2
        go_ret
        exact ⟨by rw [e.out]; rfl, rfl⟩
      · have ht : ([120, 102, 121] == s.toList) = false := by rw [is_str s [120, 102, 121]]; exact decide_eq_false h
        have e : Hid (∀ j : Nat, j < 5 → wd j ≠ s) := hid (fun j hj => by
          rcases (show j < 4 ∨ j = 4 by omega) with h1 | rfl
          · exact hno.out j h1
          · exact fun x => h x.symm)
        clear h
        go_wp2
        go_round
        case rel => exact ⟨5, by omega, rfl, e⟩
        case measure => simp [intOf]
    · have ix := idx5
      by_cases h : s = ⟨#[121, 102, 120]⟩
      · have ht : ([121, 102, 120] == s.toList) = true := by rw [is_str s [121, 102, 120]]; exact decide_eq_true h
        have e := hid (ty_at s 5 (by omega) hno.out h.symm)
        clear h
        go_wp2
        go_ret
        exact ⟨by rw [e.out]; rfl, rfl⟩
      · have ht : ([121, 102, 120] == s.toList) = false := by rw [is_str s [121, 102, 120]]; exact decide_eq_false h
        have e : Hid (∀ j : Nat, j < 6 → wd j ≠ s) := hid (fun j hj => by
          rcases (show j < 5 ∨ j = 5 by omega) with h1 | rfl
          · exact hno.out j h1
          · exact fun x => h x.symm)
        clear h
        go_wp2
        go_round
        case rel => exact ⟨6, by omega, rfl, e⟩
        case measure => simp [intOf]
    · have ix := idx6
      by_cases h : s = ⟨#[120, 102]⟩
      · have ht : ([120, 102] == s.toList) = true := by rw [is_str s [120, 102]]; exact decide_eq_true h
        have e := hid (ty_at s 6 (by omega) hno.out h.symm)
        clear h
        go_wp2
        go_ret
        exact ⟨by rw [e.out]; rfl, rfl⟩
      · have ht : ([120, 102] == s.toList) = false := by rw [is_str s [120, 102]]; exact decide_eq_false h
        have e : Hid (∀ j : Nat, j < 7 → wd j ≠ s) := hid (fun j hj => by
          rcases (show j < 6 ∨ j = 6 by omega) with h1 | rfl
          · exact hno.out j h1
          · exact fun x => h x.symm)
        clear h
        go_wp2
        go_round
        case rel => exact ⟨7, by omega, rfl, e⟩
        case measure => simp [intOf]
    · have ix := idx7
      by_cases h : s = ⟨#[121, 102]⟩
      · have ht : ([121, 102] == s.toList) = true := by rw [is_str s [121, 102]]; exact decide_eq_true h
        have e := hid (ty_at s 7 (by omega) hno.out h.symm)
        clear h
        go_wp2
        go_ret
        exact ⟨by rw [e.out]; rfl, rfl⟩
      · have ht : ([121, 102] == s.toList) = false := by rw [is_str s [121, 102]]; exact decide_eq_false h
        have e : Hid (∀ j : Nat, j < 8 → wd j ≠ s) := hid (fun j hj => by
          rcases (show j < 7 ∨ j = 7 by omega) with h1 | rfl
          · exact hno.out j h1
          · exact fun x => h x.symm)
        clear h
        go_wp2
        go_round
        case rel => exact ⟨8, by omega, rfl, e⟩
        case measure => simp [intOf]
    · go_wp2
      go_ret
      exact ⟨by rw [ty_no s hno.out]; rfl, rfl⟩
end Go.Proofs.YtnbhmgonijlplaaDoor
