/- Texts of integers that are as they are written: plain. No condition but those that each theorem names. Walks: isNum and the document's canonical, of any text. No condition but those that each theorem names. -/
import Derived.Test.YtiaddfedaikaiaaGreatDoorBigX3m
import Derived.Test.YtiaddfedaikaiaaGreatDoorBigX4
import Derived.Test.YtiaddfedaikaiaaGreatDoorT14m
namespace Go.Proofs.YtiaddfedaikaiaaGreatDoor
open Go.RowKit Lm

theorem names_eq (a b : ByteArray) : (a.toList == b.toList) = decide (a = b) := by
  rw [ByteArray.toList_eq, ByteArray.toList_eq, Bool.eq_iff_iff, beq_iff_eq, decide_eq_true_iff]
  exact ⟨fun h => ByteArray.ext (Array.toList_inj.1 h), fun h => by rw [h]⟩
/-- Is a text one of an integer that may be? -/
def numOk (s : ByteArray) : Bool := ((s.toList == [48]) || !nought s) && decide (pbad s 10 = 0)
theorem unsigned_le (s : ByteArray) : (unsigned s).size ≤ s.size := by
  rw [Lib.size_eq, Lib.size_eq]
  show (Lib.trimPrefix s.data.toList [45]).length ≤ _
  unfold Lib.trimPrefix
  split
  · rw [List.length_drop]; omega
  · exact Nat.le_refl _
end Go.Proofs.YtiaddfedaikaiaaGreatDoor

namespace Go.Proofs.YtiaddfedaikaiaaGreatDoor
open Go.RowKit Lm

theorem parse_tells (s : ByteArray) (w : World) (hs : s.size ≤ maxLen) :
    Calls Tryz.prog 176 #[.string s, .int .i64 10] w fun r w' => ∃ n ao len, r = .returned (.tuple #[.agg #[.bool n, .slice ao len len], .int .i64 (pbad s 10)]) ∧ Below w.heap.size w w' := by
  have hus : (unsigned s).size ≤ maxLen := Nat.le_trans (unsigned_le s) hs
  cases hall : allD (unsigned s) 10 with
  | false =>
    refine (parse_text s 10 w (by decide) (by decide) hus hall).mono ?_
    rintro r w' ⟨rfl, hb⟩
    have e := pbad_text (s := s) (r := 10) (by decide) (by decide) hall
    rw [show ((10 : Nat) : Int) = 10 from rfl] at e
    exact ⟨_, _, _, by rw [e], hb⟩
  | true =>
    by_cases hf : 4096 < (bare s).size
    · refine (parse_far s 10 w (by decide) (by decide) hus hall hf).mono ?_
      rintro r w' ⟨rfl, hb⟩
      have hl : 4096 < bl (dval 10 (unsigned s).data.toList) := dval_far (by decide) (by rw [Lib.size_eq] at hf; exact hf)
      have e := pbad_far (s := s) (r := 10) (by decide) (by decide) hall hl
      rw [show ((10 : Nat) : Int) = 10 from rfl] at e
      exact ⟨_, _, _, by rw [e], hb⟩
    · refine (parse_good s 10 w (by decide) (by decide) hus hall (by omega) (fun c hc => allD_mem hall (bare_mem hc))).mono ?_
      rintro r w' ⟨n', ao', len', c, rfl, hfit, hb⟩
      rw [bare_val] at hfit
      have ha : (sval (signed s) (dval 10 (unsigned s).data.toList)).natAbs = dval 10 (unsigned s).data.toList := by unfold sval; split <;> simp
      rcases hfit with ⟨h1, h2, _⟩ | ⟨h1, h2, _⟩
      · rw [ha] at h1
        have e := pbad_good (s := s) (r := 10) (by decide) (by decide) hall (by omega)
        rw [show ((10 : Nat) : Int) = 10 from rfl] at e
        exact ⟨_, _, _, by rw [e, h2], hb⟩
      · rw [ha] at h1
        have e := pbad_far (s := s) (r := 10) (by decide) (by decide) hall (by omega)
        rw [show ((10 : Nat) : Int) = 10 from rfl] at e
        exact ⟨_, _, _, by rw [e, h2], hb⟩
set_option maxRecDepth 100000 in
set_option maxHeartbeats 2000000 in
theorem isNum_any (s : ByteArray) (w : World) (hs : s.size ≤ maxLen) : Calls Tryz.prog 165 #[.string s] w fun e w' => e = .returned (.bool (numOk s)) ∧ Below w.heap.size w w' := by
  have C1 := hid (fun W => (Tryz.strings_TrimPrefix s ⟨#[45]⟩ W).mono fun e w' h => (⟨h.1, h.2.symm⟩ : e = _ ∧ W = w'))
  have C2 := hid (fun W => (Tryz.strings_HasPrefix ⟨(Lib.trimPrefix s.data.toList [45]).toArray⟩ ⟨#[48]⟩ W).mono fun e w' h => (⟨h.1, h.2.symm⟩ : e = _ ∧ W = w'))
  have hh : Lib.hasPrefix (⟨(Lib.trimPrefix s.data.toList [45]).toArray⟩ : ByteArray).data.toList [48] = nought s := rfl
  simp only [hh] at C2
  have H3 := hid (fun W => parse_tells s W hs)
  have hr : numOk s = (((s.toList == [48]) || !nought s) && decide (pbad s 10 = 0)) := rfl
  rw [hr]
  clear hh hr hs
  generalize nought s = no at *
  generalize pbad s 10 = pb at *
  have hpb : pb = 0 ∨ pb ≠ 0 := by omega
  have h0 : (s.toList == [48]) = true ∨ (s.toList == [48]) = false := by cases (s.toList == [48]) <;> simp
  rcases h0 with h0 | h0
  · rw [h0]
    rcases hpb with rfl | hpb
    · go_enter Tryz.func165, Tryz.ntmps165
      go_wp2_with (first
        | (go_at_call 176; (with_reducible refine (H3.out _).mono ?_); rintro e w2 ⟨n', ao', len', rfl, hb2⟩; have B2 := hid hb2; clear hb2))
      go_ret
      exact ⟨by simp, B2.out.alloc B2.out.size _⟩
    · have hq : (pb == 0) = false := beq_eq_false_iff_ne.2 hpb
      have HP := hid hpb
      clear hpb
      go_enter Tryz.func165, Tryz.ntmps165
      go_wp2_with (first
        | (go_at_call 176; (with_reducible refine (H3.out _).mono ?_); rintro e w2 ⟨n', ao', len', rfl, hb2⟩; have B2 := hid hb2; clear hb2))
      go_ret
      exact ⟨ret_b (by simp [HP.out]), B2.out.alloc B2.out.size _⟩
  · rw [h0]
    cases no
    · rcases hpb with rfl | hpb
      · go_enter Tryz.func165, Tryz.ntmps165
        go_wp2_with (first
          | (go_at_call 175; (with_reducible refine (C1.out _).mono ?_); rintro e w' ⟨rfl, rfl⟩)
          | (go_at_call 174; (with_reducible refine (C2.out _).mono ?_); rintro e w' ⟨rfl, rfl⟩)
          | (go_at_call 176; (with_reducible refine (H3.out _).mono ?_); rintro e w2 ⟨n', ao', len', rfl, hb2⟩; have B2 := hid hb2; clear hb2))
        go_ret
        exact ⟨by simp, B2.out.alloc B2.out.size _⟩
      · have hq : (pb == 0) = false := beq_eq_false_iff_ne.2 hpb
        have HP := hid hpb
        clear hpb
        go_enter Tryz.func165, Tryz.ntmps165
        go_wp2_with (first
          | (go_at_call 175; (with_reducible refine (C1.out _).mono ?_); rintro e w' ⟨rfl, rfl⟩)
          | (go_at_call 174; (with_reducible refine (C2.out _).mono ?_); rintro e w' ⟨rfl, rfl⟩)
          | (go_at_call 176; (with_reducible refine (H3.out _).mono ?_); rintro e w2 ⟨n', ao', len', rfl, hb2⟩; have B2 := hid hb2; clear hb2))
        go_ret
        exact ⟨ret_b (by simp [HP.out]), B2.out.alloc B2.out.size _⟩
    · clear hpb
      go_enter Tryz.func165, Tryz.ntmps165
      go_wp2_with (first
        | (go_at_call 175; (with_reducible refine (C1.out _).mono ?_); rintro e w' ⟨rfl, rfl⟩)
        | (go_at_call 174; (with_reducible refine (C2.out _).mono ?_); rintro e w' ⟨rfl, rfl⟩))
      go_ret
      exact ⟨by simp, Below.refl _ _⟩
end Go.Proofs.YtiaddfedaikaiaaGreatDoor
