/- Walks: awake of the laws. No condition but those that each theorem names. -/
import Derived.Test.YtnbhmgonijlplaaDoorT6
namespace Go.Proofs.YtnbhmgonijlplaaDoor
open Go.RowKit

def isB : ByteArray := ⟨#[105, 115]⟩
def isF : Fn := fset newF (cls 2) isB (some ⟨isB, 2, 700⟩)
theorem is_in : newF 2 isB = some ⟨isB, 3, 700⟩ := by kernel_rfl
theorem is_pre : isF 1 isB = some ⟨isB, 2, 700⟩ := by kernel_rfl
theorem is_no : refu newF 700 6 isB = 43 := by decide +kernel
theorem is_yes : refu newF 700 2 isB = 0 := by decide +kernel
theorem sides_is (w : World) (hw : Words w) : Calls Tryd.prog 19 #[.agg #[.string ⟨#[105, 115]⟩, .int .i64 3, .int .i64 700]] w fun e w' => e = .returned (.tuple #[.int .i64 699, .int .i64 699]) ∧ Below w.heap.size w w' :=
  by
  have h := sides_any ⟨isB, 3, 700⟩ w hw
  have e1 : sd (lft 3) 700 = 699 := by decide +kernel
  have e2 : sd (rgt 3) 700 = 699 := by decide +kernel
  simp only at h
  rw [e1, e2] at h
  exact h
theorem grown_below {w w1 w2 : World} {b : Nat} (h : Below w.heap.size w w1) (hb : w.heap.size ≤ b) (k : w1.grownBy w2 (some b)) : Below w.heap.size w w2 :=
  ⟨k.os.trans h.os, k.tape.trans h.tape, k.output.trans h.output, Nat.le_trans h.size k.size, fun i hi => (k.block i (Nat.lt_of_lt_of_le hi h.size) (by simp; omega)).trans (h.block i hi)⟩

section
variable {w : World} {bt b n : Nat}
theorem infix_is (hT : Tab w b n newF) (hc : w.cell? ⟨bt, 0, none⟩ = some (.map (some b))) : Calls Tryd.prog 27 #[.pointer (some ⟨bt, 0, none⟩), .string ⟨#[105, 115]⟩] w fun e w' => e = .returned (.tuple #[.agg #[.string ⟨#[105, 115]⟩, .int .i64 3, .int .i64 700], .bool true]) ∧ Below w.heap.size w w' := by
  have h := infix_any bt b n newF isB w hT hc (by decide)
  unfold found at h
  rw [is_in] at h
  exact h
theorem pre_is (hT : Tab w b n isF) (hc : w.cell? ⟨bt, 0, none⟩ = some (.map (some b))) : Calls Tryd.prog 31 #[.pointer (some ⟨bt, 0, none⟩), .string ⟨#[105, 115]⟩] w fun e w' => e = .returned (.tuple #[.agg #[.string ⟨#[105, 115]⟩, .int .i64 2, .int .i64 700], .bool true]) ∧ Below w.heap.size w w' := by
  have h := pre_any bt b n isF isB w hT hc (by decide)
  unfold found at h
  rw [is_pre] at h
  exact h
theorem add_is_no (hT : Tab w b n newF) (hc : w.cell? ⟨bt, 0, none⟩ = some (.map (some b))) : Calls Tryd.prog 14 #[.pointer (some ⟨bt, 0, none⟩), .int .i64 700, .int .i64 6, .string ⟨#[105, 115]⟩] w fun e w' => e = .returned (.int .i64 43) ∧ Below w.heap.size w w' := by
  have h := add_refused bt b n newF 700 6 isB w hT hc (by decide) (by rw [is_no]; decide)
  rw [is_no] at h
  exact h
theorem add_is_yes (hT : Tab w b n newF) (hc : w.cell? ⟨bt, 0, none⟩ = some (.map (some b))) (hn : n < maxLen) : Calls Tryd.prog 14 #[.pointer (some ⟨bt, 0, none⟩), .int .i64 700, .int .i64 2, .string ⟨#[105, 115]⟩] w fun e w' => e = .returned (.int .i64 0) ∧ Tab w' b (n + 1) isF ∧ w.grownBy w' (some b) :=
  add_put bt b n newF 700 2 isB w hT hc (by decide) hn is_yes (by decide)
end
theorem type_xfx (w : World) (hw : Words w) : Calls Tryd.prog 21 #[.string ⟨#[120, 102, 120]⟩] w fun e w' => e = .returned (.int .i64 3) ∧ w = w' := type_any ⟨#[120, 102, 120]⟩ w hw
theorem word_7 (w : World) (hw : Words w) : Calls Tryd.prog 23 #[.int .i64 7] w fun e w' => e = .returned (.string ⟨#[121, 102]⟩) ∧ w = w' := word_any 7 w hw

set_option maxRecDepth 100000 in
set_option maxHeartbeats 4000000 in
theorem awake_true (w : World) (hw : Words w) (hbl : Blanks w) : Calls Tryd.prog 9 #[] w fun e w' => e = .returned (.bool true) ∧ Below w.heap.size w w' := by
  have HW := hid hw
  have HL := hid hbl
  have l1 := hid hbl.lt
  clear hw hbl
  go_enter Tryd.func9, Tryd.ntmps9
  go_wp2_with (first
    | (go_at_call 10; (with_reducible refine (new_any _ HL.out).mono ?_); rintro e w1 ⟨rfl, hT1, c1, hb1⟩; have T1 := hid hT1; have C1 := hid c1; have B1 := hid hb1; clear hT1 c1 hb1)
    | (go_at_call 27; (with_reducible refine (infix_is T1.out C1.out).mono ?_); rintro e w2 ⟨rfl, hb2⟩
       have B2 := hid (hb2.alloc hb2.size (.cells #[.string ⟨#[105, 115]⟩, .int .i64 3, .int .i64 700] 39))
       have X2 := hid (heap_alloc_new w2 (.cells #[.string ⟨#[105, 115]⟩, .int .i64 3, .int .i64 700] 39))
       have T2 := hid (T1.out.keep B2.out); have C2 := hid (heap_cell_keep B2.out C1.out); have S2 := hid (show w.heap.size < w2.heap.size from Nat.lt_of_lt_of_le T1.out.lt hb2.size); clear hb2)
    | (go_at_call 14; (with_reducible refine (add_is_no T2.out C2.out).mono ?_); rintro e w3 ⟨rfl, hb3⟩
       have X3 := hid (heap_keep3 X2.out hb3); have T3 := hid (T2.out.keep hb3); have C3 := hid (heap_cell_keep hb3 C2.out); have B3 := hid (B2.out.trans (hb3.mono B2.out.size)); clear hb3)
    | (go_at_call 14; (with_reducible refine (add_is_yes T3.out C3.out (by decide)).mono ?_); rintro e w4 ⟨rfl, hT4, hg4⟩
       have T4 := hid hT4; have C4 := hid (hg4.cell C3.out (by simp)); have X4 := hid ((hg4.block _ (lt_of_block X3.out) (by have := S2.out; simp; omega)).trans X3.out); have S4 := hid (Nat.lt_of_lt_of_le (Nat.lt_of_lt_of_le S2.out (Nat.le_of_lt (lt_of_block X3.out))) hg4.size); have G4 := hid (show Below w.heap.size w w4 from grown_below (B1.out.trans (B3.out.mono B1.out.size)) (Nat.le_refl _) hg4); clear hT4 hg4)
    | (go_at_call 31; (with_reducible refine (pre_is T4.out C4.out).mono ?_); rintro e w5 ⟨rfl, hb5⟩
       have B5 := hid (hb5.alloc hb5.size (.cells #[.string ⟨#[105, 115]⟩, .int .i64 2, .int .i64 700] 39))
       have Y5 := hid (heap_alloc_new w5 (.cells #[.string ⟨#[105, 115]⟩, .int .i64 2, .int .i64 700] 39))
       have X5 := hid (heap_keep3 X4.out B5.out)
       have G5 := hid (G4.out.trans (B5.out.mono G4.out.size))
       have W5 := hid (HW.out.keep HW.out.lt G5.out)
       obtain ⟨x0, x1, x2, _, _, _⟩ := three_cells X5.out
       clear hb5)
    | (go_at_call 19; (with_reducible refine (sides_is _ W5.out).mono ?_); rintro e w6 ⟨rfl, hb6⟩
       have W6 := hid (W5.out.keep W5.out.lt hb6)
       have G6 := hid (G5.out.trans (hb6.mono G5.out.size))
       obtain ⟨z0, z1, z2, _, _, _⟩ := three_cells (heap_keep3 X5.out hb6)
       obtain ⟨y0, y1, y2, _, _, _⟩ := three_cells (heap_keep3 Y5.out hb6))
    | (go_at_call 21; (with_reducible refine (type_xfx _ W6.out).mono ?_); rintro e w7 ⟨rfl, rfl⟩)
    | (go_at_call 23; (with_reducible refine (word_7 _ W6.out).mono ?_); rintro e w7 ⟨rfl, rfl⟩))
  go_ret
  exact ⟨rfl, G6.out⟩
end Go.Proofs.YtnbhmgonijlplaaDoor
