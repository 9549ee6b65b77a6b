/- The law OpsTypes answers true at every operator, word and number, where the program's tables of words and of blanks lie as its text lays them. -/
import Derived.Test.YtnbhmgonijlplaaDoorT11
namespace Go.Proofs.YtnbhmgonijlplaaDoor
open Go.RowKit

set_option maxRecDepth 100000 in
set_option maxHeartbeats 4000000 in
theorem types_yes (x : Opn) (s : ByteArray) (k : Int) (w : World) (hw : Words w) (hbl : Blanks w) : Calls Tryd.prog 4 #[x.val, .string s, .int .i64 k] w fun e w' => e = .returned (.bool true) ∧ Below w.heap.size w w' := by
  obtain ⟨nm, t, p⟩ := x
  unfold Opn.val
  simp only
  have l1 := hid hbl.lt
  have B0 := hid ((Below.refl w.heap.size w).alloc (Nat.le_refl _) (.cells #[.string nm, .int .i64 t, .int .i64 p] 39))
  have X0 := hid (heap_alloc_new w (.cells #[.string nm, .int .i64 t, .int .i64 p] 39))
  have W0 := hid (hw.keep hw.lt B0.out)
  have A0 := hid (awake_true _ W0.out (hbl.keep hbl.lt B0.out))
  have SD := hid (fun w1 (h : Words w1) => show Calls Tryd.prog 19 #[.agg #[.string nm, .int .i64 t, .int .i64 p]] w1 (fun e w' => e = .returned (.tuple #[.int .i64 (sd (lft t) p), .int .i64 (sd (rgt t) p)]) ∧ Below w1.heap.size w1 w') from sides_any ⟨nm, t, p⟩ w1 h)
  have RD := hid (refSides nm t p)
  have TY := hid (fun w1 (h : Words w1) => type_any s w1 h)
  have RT := hid (refType s)
  have WD := hid (fun w1 (h : Words w1) => word_any k w1 h)
  have RW := hid (refWord k)
  clear hw hbl
  generalize sd (lft t) p = L at *
  generalize sd (rgt t) p = R at *
  generalize ty s = tt at *
  generalize wd k = ww at *
  go_enter Tryd.func4, Tryd.ntmps4
  go_wp2_with (first
    | (go_at_call 9; (with_reducible refine A0.out.mono ?_); rintro e w1 ⟨rfl, hb1⟩
       have W1 := hid (W0.out.keep W0.out.lt hb1); have X1 := hid (heap_keep3 X0.out hb1); have B1 := hid (B0.out.trans (hb1.mono B0.out.size)); clear hb1
       obtain ⟨x0, x1, x2, _, _, _⟩ := three_cells X1.out)
    | (go_at_call 19; (with_reducible refine (SD.out _ W1.out).mono ?_); rintro e w2 ⟨rfl, hb2⟩
       have W2 := hid (W1.out.keep W1.out.lt hb2); have X2 := hid (heap_keep3 X1.out hb2); have B2 := hid (B1.out.trans (hb2.mono B1.out.size)); clear hb2
       obtain ⟨y0, y1, y2, _, _, _⟩ := three_cells X2.out)
    | (go_at_call 20; (with_reducible refine (RD.out _).mono ?_); rintro e w3 ⟨rfl, hb3⟩
       have W3 := hid (W2.out.keep W2.out.lt hb3); have B3 := hid (B2.out.trans (hb3.mono B2.out.size)); clear hb3)
    | (go_at_call 21; (with_reducible refine (TY.out _ W3.out).mono ?_); rintro e w4 ⟨rfl, rfl⟩)
    | (go_at_call 22; (with_reducible refine (RT.out _).mono ?_); rintro e w5 ⟨rfl, hb5⟩
       have W5 := hid (W3.out.keep W3.out.lt hb5); have B5 := hid (B3.out.trans (hb5.mono B3.out.size)); clear hb5)
    | (go_at_call 23; (with_reducible refine (WD.out _ W5.out).mono ?_); rintro e w6 ⟨rfl, rfl⟩)
    | (go_at_call 24; (with_reducible refine (RW.out _).mono ?_); rintro e w7 ⟨rfl, hb7⟩
       have B7 := hid (B5.out.trans (hb7.mono B5.out.size)); clear hb7))
  go_ret
  exact ⟨rfl, B7.out⟩
end Go.Proofs.YtnbhmgonijlplaaDoor
