/- The law OpsNone answers true at every priority, type and name, where the program's tables of words and of blanks lie as its text lays them. -/
import Derived.Test.YtnbhmgonijlplaaDoorT14
namespace Go.Proofs.YtnbhmgonijlplaaDoor
open Go.RowKit

theorem func_is (a : Value) (w : World) : (binOp BinOp.neq 54 (.func (.func 45) #[] #[a]) .nilFunc).run Tryd.prog w = .ok (.bool true) w := by kernel_rfl
theorem func_eq (a : Value) (w : World) : (eqGuard BinOp.neq 54 (.tmp 38) (.const .nilFunc) (.func (.func 45) #[] #[a]) .nilFunc).run Tryd.prog w = .ok () w := by kernel_rfl
set_option maxRecDepth 100000 in
set_option maxHeartbeats 4000000 in
theorem none_yes (p k : Int) (s : ByteArray) (w : World) (hw : Words w) (hbl : Blanks w) : Calls Tryd.prog 8 #[.int .i64 p, .int .i64 k, .string s] w fun e w' => e = .returned (.bool true) ∧ Below w.heap.size w w' := by
  have A0 := hid (awake_true w hw hbl)

  have PR := hid (pre_none s)
  have IN := hid (infix_none s)
  have PO := hid (postfix_none s)
  have IS := hid (is_none s)
  have AD := hid (add_none p k s)
  clear hw hbl
  have FN := func_is
  have FG := func_eq
  go_enter Tryd.func8, Tryd.ntmps8
  go_wp2_with (first
    | (go_at_call 9; (with_reducible refine A0.out.mono ?_); rintro e w1 ⟨rfl, hb1⟩; have B1 := hid hb1; clear hb1)
    | (go_at_call 31; (with_reducible refine (PR.out _).mono ?_); rintro e w2 ⟨rfl, hb2⟩
       have B2 := hid ((B1.out.trans (hb2.mono B1.out.size)).alloc (Nat.le_trans B1.out.size hb2.size) (.cells #[.string ⟨#[]⟩, .int .i64 0, .int .i64 0] 39)); clear hb2)
    | (go_at_call 27; (with_reducible refine (IN.out _).mono ?_); rintro e w3 ⟨rfl, hb3⟩
       have B3 := hid ((B2.out.trans (hb3.mono B2.out.size)).alloc (Nat.le_trans B2.out.size hb3.size) (.cells #[.string ⟨#[]⟩, .int .i64 0, .int .i64 0] 39)); clear hb3)
    | (go_at_call 28; (with_reducible refine (PO.out _).mono ?_); rintro e w4 ⟨rfl, hb4⟩
       have B4 := hid ((B3.out.trans (hb4.mono B3.out.size)).alloc (Nat.le_trans B3.out.size hb4.size) (.cells #[.string ⟨#[]⟩, .int .i64 0, .int .i64 0] 39)); clear hb4)
    | (go_at_call 30; (with_reducible refine (all30_none _).mono ?_); rintro e w5 ⟨rfl, rfl⟩
       have B5 := hid (B4.out.alloc B4.out.size (.cells #[.pointer none] 24)))
    | (go_at_call 26; (with_reducible refine (all26_none _).mono ?_); rintro e w6 ⟨rfl, hb6⟩
       have B6 := hid (B5.out.trans (hb6.mono B5.out.size)); clear hb6)
    | (go_at_call 29; (with_reducible refine (IS.out _).mono ?_); rintro e w7 ⟨rfl, hb7⟩
       have B7 := hid (B6.out.trans (hb7.mono B6.out.size)); clear hb7)
    | (go_at_call 11; (with_reducible refine (copy_none _).mono ?_); rintro e w8 ⟨rfl, rfl⟩)
    | (go_at_call 14; (with_reducible refine (AD.out _).mono ?_); rintro e w9 ⟨rfl, rfl⟩))
  go_ret
  exact ⟨rfl, B7.out⟩
end Go.Proofs.YtnbhmgonijlplaaDoor
