/- Walks: Word, Type, Sides of the document's answer. No condition but those that each theorem names. -/
import Derived.Test.YtnbhmgonijlplaaDoorT9
namespace Go.Proofs.YtnbhmgonijlplaaDoor
open Go.RowKit

theorem words_cells {w : World} {B : Nat} {v : Value} (h : w.ownsRow B 9 1 v 7 twW) : ∃ g cap, v = .slice (some ⟨g, 0, none⟩) 7 cap ∧ w.cell? ⟨g, 0, none⟩ = some (.string ⟨#[102, 120]⟩) ∧ w.cell? ⟨g, 1, none⟩ = some (.string ⟨#[102, 121]⟩) ∧ w.cell? ⟨g, 2, none⟩ = some (.string ⟨#[120, 102, 120]⟩) ∧ w.cell? ⟨g, 3, none⟩ = some (.string ⟨#[120, 102, 121]⟩) ∧ w.cell? ⟨g, 4, none⟩ = some (.string ⟨#[121, 102, 120]⟩) ∧ w.cell? ⟨g, 5, none⟩ = some (.string ⟨#[120, 102]⟩) ∧ w.cell? ⟨g, 6, none⟩ = some (.string ⟨#[121, 102]⟩) := by
  obtain ⟨g, cap, rfl, _, _⟩ := World.ownsRow.form h (by decide)
  refine ⟨g, cap, rfl, ?_, ?_, ?_, ?_, ?_, ?_, ?_⟩
  · exact World.ownsRow.cellAt h 0 (by decide)
  · exact World.ownsRow.cellAt h 1 (by decide)
  · exact World.ownsRow.cellAt h 2 (by decide)
  · exact World.ownsRow.cellAt h 3 (by decide)
  · exact World.ownsRow.cellAt h 4 (by decide)
  · exact World.ownsRow.cellAt h 5 (by decide)
  · exact World.ownsRow.cellAt h 6 (by decide)

set_option maxRecDepth 100000 in
set_option maxHeartbeats 4000000 in
theorem refWord (k : Int) (w : World) : Calls Tryd.prog 24 #[.int .i64 k] w fun e w' => e = .returned (.string (wd k)) ∧ Below w.heap.size w w' := by
  rcases (show k < 1 ∨ 7 < k ∨ k = 1 ∨ k = 2 ∨ k = 3 ∨ k = 4 ∨ k = 5 ∨ k = 6 ∨ k = 7 by omega) with h | h | rfl | rfl | rfl | rfl | rfl | rfl | rfl
  · have e : Hid (wd k = ⟨#[]⟩) := hid (by unfold wd; rw [if_neg (by omega), if_neg (by omega), if_neg (by omega), if_neg (by omega), if_neg (by omega), if_neg (by omega), if_neg (by omega)])
    rw [e.out]
    go_enter Tryd.func24, Tryd.ntmps24
    go_wp2
    all_goals (go_ret; exact ⟨rfl, Below.refl _ _⟩)
  · have e : Hid (wd k = ⟨#[]⟩) := hid (by unfold wd; rw [if_neg (by omega), if_neg (by omega), if_neg (by omega), if_neg (by omega), if_neg (by omega), if_neg (by omega), if_neg (by omega)])
    rw [e.out]
    have h0 : ¬ k < 1 := by omega
    go_enter Tryd.func24, Tryd.ntmps24
    go_wp2
    all_goals (go_ret; exact ⟨rfl, Below.refl _ _⟩)
  all_goals
    go_enter Tryd.func24, Tryd.ntmps24
    go_wp2_with (go_at_call 35; (with_reducible refine (words35 _).mono ?_); rintro e w1 ⟨v, rfl, hO, hb⟩; obtain ⟨g, cap, rfl, c0, c1, c2, c3, c4, c5, c6⟩ := words_cells hO)
    go_ret
    exact ⟨rfl, hb⟩

theorem ty_at1 (s : ByteArray) (k : Nat) (h1 : 0 < k) (hk : k < 8) (h : wd k = s) : ty s = k := by
  subst h
  rcases (show k = 1 ∨ k = 2 ∨ k = 3 ∨ k = 4 ∨ k = 5 ∨ k = 6 ∨ k = 7 by omega) with rfl | rfl | rfl | rfl | rfl | rfl | rfl <;> decide
theorem ty_no1 (s : ByteArray) (hno : ∀ j : Nat, 0 < j → j < 8 → wd j ≠ s) : ty s = 0 := by
  unfold ty
  have h1 : s ≠ ⟨#[102, 120]⟩ := fun e => hno 1 (by omega) (by omega) e.symm
  have h2 : s ≠ ⟨#[102, 121]⟩ := fun e => hno 2 (by omega) (by omega) e.symm
  have h3 : s ≠ ⟨#[120, 102, 120]⟩ := fun e => hno 3 (by omega) (by omega) e.symm
  have h4 : s ≠ ⟨#[120, 102, 121]⟩ := fun e => hno 4 (by omega) (by omega) e.symm
  have h5 : s ≠ ⟨#[121, 102, 120]⟩ := fun e => hno 5 (by omega) (by omega) e.symm
  have h6 : s ≠ ⟨#[120, 102]⟩ := fun e => hno 6 (by omega) (by omega) e.symm
  have h7 : s ≠ ⟨#[121, 102]⟩ := fun e => hno 7 (by omega) (by omega) e.symm
  rw [if_neg h1, if_neg h2, if_neg h3, if_neg h4, if_neg h5, if_neg h6, if_neg h7]
set_option maxRecDepth 100000 in
set_option maxHeartbeats 8000000 in
theorem refType (s : ByteArray) (w : World) : Calls Tryd.prog 22 #[.string s] w fun e w' => e = .returned (.int .i64 (ty s)) ∧ Below w.heap.size w w' := by
  go_enter Tryd.func22, Tryd.ntmps22
  go_wp2_with (go_at_call 35; (with_reducible refine (words35 _).mono ?_); rintro e w1 ⟨v, rfl, hO, hb⟩; obtain ⟨g, cap, rfl, c0, c1, c2, c3, c4, c5, c6⟩ := words_cells hO)
  have HB := hid hb
  clear hO hb
  go_loop [4] (fun i => ∃ k : Nat, k ≤ 7 ∧ i = .int .i64 (k : Int) ∧ Hid (∀ j : Nat, 0 < j → j < k + 1 → wd j ≠ s)) (fun i => 7 - (intOf i).toNat)
  case atStart => exact ⟨0, by omega, rfl, hid (fun j h1 h2 => by omega)⟩
  case round =>
    obtain ⟨k, hk, rfl, hno⟩ := hrel
    rcases (show k = 0 ∨ k = 1 ∨ k = 2 ∨ k = 3 ∨ k = 4 ∨ k = 5 ∨ k = 6 ∨ k = 7 by omega) with rfl | rfl | rfl | rfl | rfl | rfl | rfl | rfl
    · by_cases h : s = ⟨#[102, 120]⟩
      · have ht : ([102, 120] == s.toList) = true := by rw [is_str s [102, 120]]; exact decide_eq_true h
        have e := hid (ty_at1 s 1 (by omega) (by omega) h.symm)
        clear h
        go_wp2
        go_ret
        exact ⟨by rw [e.out]; rfl, HB.out⟩
      · have ht : ([102, 120] == s.toList) = false := by rw [is_str s [102, 120]]; exact decide_eq_false h
        have e : Hid (∀ j : Nat, 0 < j → j < 1 + 1 → wd j ≠ s) := hid (fun j h0 hj => by
          rcases (show j < 0 + 1 ∨ j = 1 by omega) with h1 | rfl
          · exact hno.out j h0 h1
          · exact fun x => h x.symm)
        clear h
        go_wp2
        go_round
        case rel => exact ⟨1, by omega, rfl, e⟩
        case measure => simp [intOf]
    · by_cases h : s = ⟨#[102, 121]⟩
      · have ht : ([102, 121] == s.toList) = true := by rw [is_str s [102, 121]]; exact decide_eq_true h
        have e := hid (ty_at1 s 2 (by omega) (by omega) h.symm)
        clear h
        go_wp2
        go_ret
        exact ⟨by rw [e.out]; rfl, HB.out⟩
      · have ht : ([102, 121] == s.toList) = false := by rw [is_str s [102, 121]]; exact decide_eq_false h
        have e : Hid (∀ j : Nat, 0 < j → j < 2 + 1 → wd j ≠ s) := hid (fun j h0 hj => by
          rcases (show j < 1 + 1 ∨ j = 2 by omega) with h1 | rfl
          · exact hno.out j h0 h1
          · exact fun x => h x.symm)
        clear h
        go_wp2
        go_round
        case rel => exact ⟨2, by omega, rfl, e⟩
        case measure => simp [intOf]
    · by_cases h : s = ⟨#[120, 102, 120]⟩
      · have ht : ([120, 102, 120] == s.toList) = true := by rw [is_str s [120, 102, 120]]; exact decide_eq_true h
        have e := hid (ty_at1 s 3 (by omega) (by omega) h.symm)
        clear h
        go_wp2
        go_ret
        exact ⟨by rw [e.out]; rfl, HB.out⟩
      · have ht : ([120, 102, 120] == s.toList) = false := by rw [is_str s [120, 102, 120]]; exact decide_eq_false h
        have e : Hid (∀ j : Nat, 0 < j → j < 3 + 1 → wd j ≠ s) := hid (fun j h0 hj => by
          rcases (show j < 2 + 1 ∨ j = 3 by omega) with h1 | rfl
          · exact hno.out j h0 h1
          · exact fun x => h x.symm)
        clear h
        go_wp2
        go_round
        case rel => exact ⟨3, by omega, rfl, e⟩
        case measure => simp [intOf]
    · by_cases h : s = ⟨#[120, 102, 121]⟩
      · have ht : ([120, 102, 121] == s.toList) = true := by rw [is_str s [120, 102, 121]]; exact decide_eq_true h
        have e := hid (ty_at1 s 4 (by omega) (by omega) h.symm)
        clear h
        go_wp2
        go_ret
        exact ⟨by rw [e.out]; rfl, HB.out⟩
      · have ht : ([120, 102, 121] == s.toList) = false := by rw [is_str s [120, 102, 121]]; exact decide_eq_false h
        have e : Hid (∀ j : Nat, 0 < j → j < 4 + 1 → wd j ≠ s) := hid (fun j h0 hj => by
          rcases (show j < 3 + 1 ∨ j = 4 by omega) with h1 | rfl
          · exact hno.out j h0 h1
          · exact fun x => h x.symm)
        clear h
        go_wp2
        go_round
        case rel => exact ⟨4, by omega, rfl, e⟩
        case measure => simp [intOf]
    · by_cases h : s = ⟨#[121, 102, 120]⟩
      · have ht : ([121, 102, 120] == s.toList) = true := by rw [is_str s [121, 102, 120]]; exact decide_eq_true h
        have e := hid (ty_at1 s 5 (by omega) (by omega) h.symm)
        clear h
        go_wp2
        go_ret
        exact ⟨by rw [e.out]; rfl, HB.out⟩
      · have ht : ([121, 102, 120] == s.toList) = false := by rw [is_str s [121, 102, 120]]; exact decide_eq_false h
        have e : Hid (∀ j : Nat, 0 < j → j < 5 + 1 → wd j ≠ s) := hid (fun j h0 hj => by
          rcases (show j < 4 + 1 ∨ j = 5 by omega) with h1 | rfl
          · exact hno.out j h0 h1
          · exact fun x => h x.symm)
        clear h
        go_wp2
        go_round
        case rel => exact ⟨5, by omega, rfl, e⟩
        case measure => simp [intOf]
    · by_cases h : s = ⟨#[120, 102]⟩
      · have ht : ([120, 102] == s.toList) = true := by rw [is_str s [120, 102]]; exact decide_eq_true h
        have e := hid (ty_at1 s 6 (by omega) (by omega) h.symm)
        clear h
        go_wp2
        go_ret
        exact ⟨by rw [e.out]; rfl, HB.out⟩
      · have ht : ([120, 102] == s.toList) = false := by rw [is_str s [120, 102]]; exact decide_eq_false h
        have e : Hid (∀ j : Nat, 0 < j → j < 6 + 1 → wd j ≠ s) := hid (fun j h0 hj => by
          rcases (show j < 5 + 1 ∨ j = 6 by omega) with h1 | rfl
          · exact hno.out j h0 h1
          · exact fun x => h x.symm)
        clear h
        go_wp2
        go_round
        case rel => exact ⟨6, by omega, rfl, e⟩
        case measure => simp [intOf]
    · by_cases h : s = ⟨#[121, 102]⟩
      · have ht : ([121, 102] == s.toList) = true := by rw [is_str s [121, 102]]; exact decide_eq_true h
        have e := hid (ty_at1 s 7 (by omega) (by omega) h.symm)
        clear h
        go_wp2
        go_ret
        exact ⟨by rw [e.out]; rfl, HB.out⟩
      · have ht : ([121, 102] == s.toList) = false := by rw [is_str s [121, 102]]; exact decide_eq_false h
        have e : Hid (∀ j : Nat, 0 < j → j < 7 + 1 → wd j ≠ s) := hid (fun j h0 hj => by
          rcases (show j < 6 + 1 ∨ j = 7 by omega) with h1 | rfl
          · exact hno.out j h0 h1
          · exact fun x => h x.symm)
        clear h
        go_wp2
        go_round
        case rel => exact ⟨7, by omega, rfl, e⟩
        case measure => simp [intOf]
    · go_wp2
      go_ret
      exact ⟨by rw [ty_no1 s hno.out]; rfl, HB.out⟩
end Go.Proofs.YtnbhmgonijlplaaDoor
