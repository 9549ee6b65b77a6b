/- Walks: Copy of a table. No condition but those that each theorem names. -/
import Derived.Test.YtnbhmgonijlplaaDoorT23
namespace Go.Proofs.YtnbhmgonijlplaaDoor
open Go.RowKit Go.Maps

theorem clone_any (b n : Nat) (F : Fn) (w : World) (hT : Tab w b n F) : Calls Tryd.prog 34 #[.map (some b)] w fun e w' => e = .returned (.map (some w.heap.size)) ∧ Tab w' w.heap.size n F ∧ Below w.heap.size w w' := by
  obtain ⟨D, h1, h2, h3⟩ := hT
  have h := AnyW.maps_Clone_owns Tryd.cloneOps 68 Rop b n D w h1
  exact h.mono fun e w' ⟨he, r1, _, r3⟩ => ⟨he, ⟨D, r1, h2, h3⟩, r3⟩
set_option maxRecDepth 100000 in
theorem copy_any (bt b n : Nat) (F : Fn) (w : World) (hT : Tab w b n F) (hc : w.cell? ⟨bt, 0, none⟩ = some (.map (some b))) :
    Calls Tryd.prog 11 #[.pointer (some ⟨bt, 0, none⟩)] w fun e w' => ∃ b2 bt2, e = .returned (.pointer (some ⟨bt2, 0, none⟩)) ∧ w.heap.size ≤ b2 ∧ w.heap.size ≤ bt2 ∧ b2 ≠ bt2 ∧ Tab w' b2 n F ∧ w'.cell? ⟨bt2, 0, none⟩ = some (.map (some b2)) ∧ Below w.heap.size w w' := by
  have C := hid (clone_any b n F w hT)
  clear hT
  go_enter Tryd.func11, Tryd.ntmps11
  go_wp2_with (go_at_call 34; (with_reducible refine C.out.mono ?_); rintro e w1 ⟨rfl, hT1, hb1⟩; have T1 := hid hT1; have B1 := hid hb1; clear C hT1 hb1)
  go_ret
  refine ⟨w.heap.size, w1.heap.size, rfl, Nat.le_refl _, B1.out.size, ?_, T1.out.alloc _, (Boxed.new w1 60 _).cell, B1.out.alloc B1.out.size _⟩
  have := T1.out.lt
  omega
end Go.Proofs.YtnbhmgonijlplaaDoor
