/- Walks: Is of a table. No condition but those that each theorem names. -/
import Derived.Test.YtnbhmgonijlplaaDoorT24
import Derived.Test.YtnbhmgonijlplaaDoorT8
namespace Go.Proofs.YtnbhmgonijlplaaDoor
open Go.RowKit Go.Maps

set_option maxRecDepth 100000 in
set_option maxHeartbeats 4000000 in
theorem is_any (bt b n : Nat) (F : Fn) (s : ByteArray) (w : World) (hT : Tab w b n F) (hc : w.cell? ⟨bt, 0, none⟩ = some (.map (some b))) (hs : s.size ≤ maxLen) :
    Calls Tryd.prog 29 #[.pointer (some ⟨bt, 0, none⟩), .string s] w fun e w' => e = .returned (.bool ((F 1 s).isSome || (F 2 s).isSome || (F 3 s).isSome)) ∧ Below w.heap.size w w' := by
  have FIND := fun c (h : 0 ≤ c ∧ c ≤ 3) => hid (fun wx (hb : Below w.heap.size w wx) => find_any bt b n F c s wx (hT.keep hb) (heap_cell_keep hb hc) (ask_wf h hs))
  have F1 := FIND 1 (by omega)
  have F2 := FIND 2 (by omega)
  have F3 := FIND 3 (by omega)
  clear FIND hT hc
  unfold Opn.val at F1 F2 F3
  generalize found F 1 s = x1 at *
  generalize found F 2 s = x2 at *
  generalize found F 3 s = x3 at *
  generalize (F 1 s).isSome = q1 at *
  generalize (F 2 s).isSome = q2 at *
  generalize (F 3 s).isSome = q3 at *
  go_enter Tryd.func29, Tryd.ntmps29
  go_wp2
  go_loopw [10] (fun i wr => ∃ k : Nat, k ≤ 3 ∧ i = .int .i64 (k : Int) ∧ Hid ((1 ≤ k → q1 = false) ∧ (2 ≤ k → q2 = false) ∧ (3 ≤ k → q3 = false)) ∧ Below w.heap.size w wr) (fun i _ => 3 - (intOf i).toNat)
  case atStart => exact ⟨0, by omega, rfl, hid ⟨fun h => by omega, fun h => by omega, fun h => by omega⟩, Below.refl _ _⟩
  case round =>
    obtain ⟨k, hk, rfl, hq, hb⟩ := hrel
    have HB := hid hb
    clear hb
    rcases (show k = 0 ∨ k = 1 ∨ k = 2 ∨ k = 3 by omega) with rfl | rfl | rfl | rfl
    · have ix := cls0
      clear F2 F3 hq
      cases q1
      · go_wp2_with (go_at_call 44; (with_reducible refine (F1.out _ HB.out).mono ?_); rintro e w5 ⟨rfl, hb5⟩)
        go_roundw
        case rel => exact ⟨1, by omega, rfl, hid (by simp), (HB.out.trans (hb5.mono HB.out.size)).alloc (Nat.le_trans HB.out.size hb5.size) _⟩
        case measure => simp [intOf]
      · go_wp2_with (go_at_call 44; (with_reducible refine (F1.out _ HB.out).mono ?_); rintro e w5 ⟨rfl, hb5⟩)
        go_ret
        exact ⟨rfl, (HB.out.trans (hb5.mono HB.out.size)).alloc (Nat.le_trans HB.out.size hb5.size) _⟩
    · have ix := cls1
      obtain rfl := hq.out.1 (by omega)
      clear F1 F3 hq
      cases q2
      · go_wp2_with (go_at_call 44; (with_reducible refine (F2.out _ HB.out).mono ?_); rintro e w5 ⟨rfl, hb5⟩)
        go_roundw
        case rel => exact ⟨2, by omega, rfl, hid (by simp), (HB.out.trans (hb5.mono HB.out.size)).alloc (Nat.le_trans HB.out.size hb5.size) _⟩
        case measure => simp [intOf]
      · go_wp2_with (go_at_call 44; (with_reducible refine (F2.out _ HB.out).mono ?_); rintro e w5 ⟨rfl, hb5⟩)
        go_ret
        exact ⟨rfl, (HB.out.trans (hb5.mono HB.out.size)).alloc (Nat.le_trans HB.out.size hb5.size) _⟩
    · have ix := cls2
      obtain rfl := hq.out.1 (by omega)
      obtain rfl := hq.out.2.1 (by omega)
      clear F1 F2 hq
      cases q3
      · go_wp2_with (go_at_call 44; (with_reducible refine (F3.out _ HB.out).mono ?_); rintro e w5 ⟨rfl, hb5⟩)
        go_roundw
        case rel => exact ⟨3, by omega, rfl, hid (by simp), (HB.out.trans (hb5.mono HB.out.size)).alloc (Nat.le_trans HB.out.size hb5.size) _⟩
        case measure => simp [intOf]
      · go_wp2_with (go_at_call 44; (with_reducible refine (F3.out _ HB.out).mono ?_); rintro e w5 ⟨rfl, hb5⟩)
        go_ret
        exact ⟨rfl, (HB.out.trans (hb5.mono HB.out.size)).alloc (Nat.le_trans HB.out.size hb5.size) _⟩
    · obtain rfl := hq.out.1 (by omega)
      obtain rfl := hq.out.2.1 (by omega)
      obtain rfl := hq.out.2.2 (by omega)
      go_wp2
      go_ret
      exact ⟨rfl, HB.out⟩
end Go.Proofs.YtnbhmgonijlplaaDoor
