/- The law TermNames: it answers true, where the tables of unicode/utf8 lie as its text lays them. -/
import Derived.Test.YtpdclfihleoigaaDoorT23
namespace Go.Proofs.YtpdclfihleoigaaDoor
open Go.RowKit

set_option maxRecDepth 100000 in
theorem names_yes (w : World) (hU : Utf w) : Calls Tryd.prog 3 #[] w fun e w' => e = .returned (.bool true) ∧ Below w.heap.size w w' := by
  have A := hid (awake_true w hU)
  clear hU
  go_enter Tryd.func3, Tryd.ntmps3
  go_wp2_with (go_at_call 6; (with_reducible refine A.out.mono ?_); rintro e w1 ⟨rfl, hb1⟩; have B1 := hid hb1; clear hb1)
  go_ret
  exact ⟨rfl, B1.out⟩
end Go.Proofs.YtpdclfihleoigaaDoor
