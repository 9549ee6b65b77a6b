/- awake answers true, where the tables of unicode/utf8 lie as its text lays them. No condition but that. -/
import Derived.Test.YtpdclfihleoigaaDoorT22
namespace Go.Proofs.YtpdclfihleoigaaDoor
open Go.RowKit

set_option maxRecDepth 100000 in
set_option maxHeartbeats 8000000 in
theorem awake_true (w : World) (hU : Utf w) : Calls Tryd.prog 6 #[] w fun e w' => e = .returned (.bool true) ∧ Below w.heap.size w w' := by
  have U0 := hid hU
  have R0 := hid (Below.refl w.heap.size w)
  have CV := hid callVars2
  have CF := hid callF2
  clear hU
  go_enter Tryd.func6, Tryd.ntmps6
  show Code.wp Tryd.prog (Code.seq (headA 0) (tailA 1)) (QA w) _ _
  conv => arg 2; arg 1; whnf
  go_wp2_with fail
  show Code.wp Tryd.prog (Code.seq (headA 1) (tailA 2)) (QA w) _ _
  conv => arg 2; arg 1; whnf
  go_wp2_with (go_at_call 14; (with_reducible refine (callA _ _).mono ?_); rintro e w1 ⟨rfl, hb1⟩; have B1 := hid (hb1.alloc hb1.size (.cells #[.int .i64 2, .string ⟨#[97]⟩, .string ⟨#[]⟩, .int .u64 0, .int .i64 0, .slice none 0 0] 26)); have OA := hid (World.alloc_heap_new w1 (.cells #[.int .i64 2, .string ⟨#[97]⟩, .string ⟨#[]⟩, .int .u64 0, .int .i64 0, .slice none 0 0] 26)); clear hb1 R0)
  show Code.wp Tryd.prog (Code.seq (headA 2) (tailA 3)) (QA w) _ _
  conv => arg 2; arg 1; whnf
  go_wp2_with (first
    | (go_at_call 16; have tok := B1; (with_reducible refine (callV 7 _).mono ?_); rintro e w2 ⟨rfl, hb2⟩; have B2 := hid (B1.out.trans (hb2.mono B1.out.size)); have OA2 := hid (obj_keep OA.out hb2); clear hb2 B1 OA tok)
    | (go_at_call 16; have tok := B2; (with_reducible refine (callV 3 _).mono ?_); rintro e w3 ⟨rfl, hb3⟩; have B3 := hid (B2.out.trans (hb3.mono B2.out.size)); have OA3 := hid (obj_keep OA2.out hb3); clear hb3 B2 OA2 tok)
    | (go_at_call 16; have tok := B3; (with_reducible refine (callV 7 _).mono ?_); rintro e w4 ⟨rfl, hb4⟩; have B4 := hid (B3.out.trans (hb4.mono B3.out.size)); have OA4 := hid (obj_keep OA3.out hb4); clear hb4 B3 OA3 tok)
    | (go_at_call 15; (with_reducible refine (CF.out w4).mono ?_); rintro e w5 ⟨px, cx, rfl, hTx, hb5⟩; have B5 := hid ((B4.out.trans (hb5.mono B4.out.size)).alloc (by have := B4.out.size; have := hb5.size; omega) (.cells #[.int .i64 5, .string ⟨#[102]⟩, .string ⟨#[]⟩, .int .u64 0, .int .i64 0, .slice px 3 cx] 26)); have OA5 := hid (obj_keep (obj_keep OA4.out hb5) ((Below.refl w5.heap.size w5).alloc (Nat.le_refl _) (.cells #[.int .i64 5, .string ⟨#[102]⟩, .string ⟨#[]⟩, .int .u64 0, .int .i64 0, .slice px 3 cx] 26))); have TX := hid (hTx.keep ((Below.refl w5.heap.size w5).alloc (Nat.le_refl _) (.cells #[.int .i64 5, .string ⟨#[102]⟩, .string ⟨#[]⟩, .int .u64 0, .int .i64 0, .slice px 3 cx] 26))); clear hb5 hTx B4 OA4))
  show Code.wp Tryd.prog (Code.seq (headA 3) (tailA 4)) (QA w) _ _
  conv => arg 2; arg 1; whnf
  go_wp2_with (go_at_call 17; have hv := CV.out _ px cx TX.out (U0.out.keep B5.out); rw [World.size_alloc] at hv; (with_reducible refine hv.mono ?_); clear hv; rintro e w6 ⟨vv, rfl, hvv, hb6⟩; rw [← World.size_alloc w5 (.cells #[.int .i64 5, .string ⟨#[102]⟩, .string ⟨#[]⟩, .int .u64 0, .int .i64 0, .slice px 3 cx] 26)] at hb6; have B6 := hid (B5.out.trans (hb6.mono B5.out.size)); have OA6 := hid (obj_keep OA5.out hb6); have VV := hid hvv; clear hb6 hvv B5 OA5 TX)
  exact awake4 (U0.out.keep B6.out) B6.out OA6.out VV.out
end Go.Proofs.YtpdclfihleoigaaDoor
