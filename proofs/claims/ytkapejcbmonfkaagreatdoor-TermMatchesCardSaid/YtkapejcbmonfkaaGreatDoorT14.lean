/- Walks: isNum where the text is an integer, and where it has a nought ahead. No condition but those that each theorem names. -/
import Derived.Test.YtkapejcbmonfkaaGreatDoorT2m
import Derived.Test.YtkapejcbmonfkaaGreatDoorBigW28m
namespace Go.Proofs.YtkapejcbmonfkaaGreatDoor
open Go.RowKit Lm

/-- Is there a nought ahead? -/
def nought (s : ByteArray) : Bool := Lib.hasPrefix (⟨(Lib.trimPrefix s.data.toList [45]).toArray⟩ : ByteArray).data.toList [48]
theorem ret_b {a b : Bool} (h : a = b) : Ending.returned (.bool a) = .returned (.bool b) := by rw [h]
set_option maxRecDepth 100000 in
set_option maxHeartbeats 2000000 in
theorem isNum_bad (s : ByteArray) (w : World) (h0 : (s.toList == [48]) = false) (hn : nought s = true) : Calls Tryz.prog 122 #[.string s] w fun e w' => e = .returned (.bool false) ∧ Below w.heap.size w w' := by
  have C1 := hid (fun W => (Tryz.strings_TrimPrefix s ⟨#[45]⟩ W).mono fun e w' h => (⟨h.1, h.2.symm⟩ : e = _ ∧ W = w'))
  have C2 := hid (fun W => (Tryz.strings_HasPrefix ⟨(Lib.trimPrefix s.data.toList [45]).toArray⟩ ⟨#[48]⟩ W).mono fun e w' h => (⟨h.1, h.2.symm⟩ : e = _ ∧ W = w'))
  have hh : Lib.hasPrefix (⟨(Lib.trimPrefix s.data.toList [45]).toArray⟩ : ByteArray).data.toList [48] = true := hn
  simp only [hh] at C2
  clear hn hh
  go_enter Tryz.func122, Tryz.ntmps122
  go_wp2_with (first
    | (go_at_call 142; (with_reducible refine (C1.out _).mono ?_); rintro e w' ⟨rfl, rfl⟩)
    | (go_at_call 141; (with_reducible refine (C2.out _).mono ?_); rintro e w' ⟨rfl, rfl⟩))
  go_ret
  exact ⟨rfl, Below.refl _ _⟩
set_option maxRecDepth 100000 in
set_option maxHeartbeats 2000000 in
theorem isNum_good (s : ByteArray) (w : World) (h0 : (s.toList == [48]) = false) (hn : nought s = false) (hus : (unsigned s).size ≤ maxLen) (hall : allD (unsigned s) 10 = true) (hbs : (bare s).size ≤ 4096) (hbd : ∀ c ∈ (bare s).data.toList, dv c.toNat < 10) (hv : bl (sval (signed s) (dval 10 (bare s).data.toList)).natAbs ≤ 4096) :
    Calls Tryz.prog 122 #[.string s] w fun e w' => e = .returned (.bool true) ∧ Below w.heap.size w w' := by
  have C1 := hid (fun W => (Tryz.strings_TrimPrefix s ⟨#[45]⟩ W).mono fun e w' h => (⟨h.1, h.2.symm⟩ : e = _ ∧ W = w'))
  have C2 := hid (fun W => (Tryz.strings_HasPrefix ⟨(Lib.trimPrefix s.data.toList [45]).toArray⟩ ⟨#[48]⟩ W).mono fun e w' h => (⟨h.1, h.2.symm⟩ : e = _ ∧ W = w'))
  have hh : Lib.hasPrefix (⟨(Lib.trimPrefix s.data.toList [45]).toArray⟩ : ByteArray).data.toList [48] = false := hn
  simp only [hh] at C2
  have C3 : ∀ W, Calls Tryz.prog 143 #[.string s, .int .i64 10] W fun e w' => ∃ n' ao' len', e = .returned (.tuple #[.agg #[.bool n', .slice ao' len' len'], .int .i64 0]) ∧ Below W.heap.size W w' := fun W =>
    (parse_good s 10 W (by omega) (by omega) hus hall hbs hbd).mono fun e w' ⟨n', ao', len', c, he, hf, hb⟩ => by
      rcases hf with ⟨_, hc, _⟩ | ⟨hc, _⟩
      · exact ⟨n', ao', len', by rw [he, hc], hb⟩
      · omega
  have H3 := hid C3
  clear hn hh C3 hus hall hbs hbd hv
  go_enter Tryz.func122, Tryz.ntmps122
  go_wp2_with (first
    | (go_at_call 142; (with_reducible refine (C1.out _).mono ?_); rintro e w' ⟨rfl, rfl⟩)
    | (go_at_call 141; (with_reducible refine (C2.out _).mono ?_); rintro e w' ⟨rfl, rfl⟩)
    | (go_at_call 143; (with_reducible refine (H3.out _).mono ?_); rintro e w2 ⟨n', ao', len', rfl, hb2⟩; have B2 := hid hb2; clear hb2))
  go_ret
  exact ⟨rfl, B2.out.alloc B2.out.size _⟩
end Go.Proofs.YtkapejcbmonfkaaGreatDoor
