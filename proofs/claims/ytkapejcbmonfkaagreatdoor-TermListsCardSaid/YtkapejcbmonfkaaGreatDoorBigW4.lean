/- Walks: bits; give, fit and the small functions upon them. -/
import Derived.Test.YtkapejcbmonfkaaGreatDoorBigW3
import Derived.Test.YtkapejcbmonfkaaGreatDoorShelf
namespace Go.Proofs.YtkapejcbmonfkaaGreatDoor
open Go.RowKit Lm

theorem bl_half (x : Nat) (h : x ≠ 0) : bl x = 1 + bl (x / 2) := by
  have h1 := (bl_le (x / 2) (bl (x / 2))).1 (Nat.le_refl _)
  apply bl_unique
  · rw [Nat.add_comm, Nat.pow_succ]; omega
  · by_cases h2 : x / 2 = 0
    · have : bl (x / 2) = 0 := by rw [h2]; rfl
      rw [this]; simp; omega
    · have hp : bl (x / 2) ≠ 0 := by unfold bl; rw [if_neg h2]; omega
      have h3 := mt (bl_le (x / 2) (bl (x / 2) - 1)).2 (by omega)
      have e : 2 ^ (1 + bl (x / 2)) = 2 * (2 * 2 ^ (bl (x / 2) - 1)) := by rw [← Nat.pow_succ', ← Nat.pow_succ']; congr 1; omega
      rw [e]; omega
theorem bl_aux (f : Nat) : ∀ x : Nat, x < 2 ^ f → Lib.bitLenAux f x = bl x := by
  induction f with
  | zero => intro x h; have : x = 0 := by simpa using h
            subst this; rfl
  | succ f ih =>
    intro x h
    rw [Lib.bitLenAux]
    split
    · rename_i h0; subst h0; rfl
    · rename_i h0; rw [ih (x / 2) (by rw [Nat.pow_succ] at h; omega), bl_half x h0]
theorem bl_lib (n : Nat) (h : n < 18446744073709551616) : Lib.bitLen n = bl n := bl_aux 64 n h

theorem len32_any (x : Nat) (w : World) (h : x < 4294967296) :
    Calls Tryz.prog 138 #[.int .u32 (x : Int)] w fun e w' => e = .returned (.int .i64 (bl x : Int)) ∧ w = w' := by
  refine (Tryz.bits_Len32 _ w (by omega) (by omega)).mono ?_
  rintro e w' ⟨rfl, rfl⟩
  rw [← bl_lib x (by omega)]; exact ⟨by simp, rfl⟩
theorem len64_any (x : Nat) (w : World) (h : x < 18446744073709551616) :
    Calls Tryz.prog 139 #[.int .u64 (x : Int)] w fun e w' => e = .returned (.int .i64 (bl x : Int)) ∧ w = w' := by
  refine (Tryz.bits_Len64 _ w (by omega) (by omega)).mono ?_
  rintro e w' ⟨rfl, rfl⟩
  rw [← bl_lib x (by omega)]; exact ⟨by simp, rfl⟩
theorem len_any (x : Nat) (w : World) (h : x < 18446744073709551616) :
    Calls Tryz.prog 119 #[.int .u64 (x : Int)] w fun e w' => e = .returned (.int .i64 (bl x : Int)) ∧ w = w' := by
  refine (Tryz.bits_Len _ w (by omega) (by omega)).mono ?_
  rintro e w' ⟨rfl, rfl⟩
  rw [← bl_lib x (by omega)]; exact ⟨by simp, rfl⟩
theorem bl_32 (x : Nat) (h : x < 4294967296) : bl x ≤ 32 := (bl_le x 32).2 (by simpa using h)

set_option maxHeartbeats 400000 in
theorem bitsOf_any (ao : Option Addr) (len cap : Nat) (A : List Nat) (w : World) (h : Rd w ao len cap A) (ht : Top A) :
    Calls Tryz.prog 171 #[.slice ao len cap] w fun e w' => e = .returned (.int .i64 (bl (val A) : Int)) ∧ w = w' := by
  have hl := h.size
  have hr := h.room
  have hm := h.most
  have hb := bl_dg h.ok ht
  cases len with
  | zero =>
    have e : bl (val A) = 0 := by rw [List.eq_nil_of_length_eq_zero hl]; rfl
    rw [e]; clear e hl
    go_enter Tryz.func171, Tryz.ntmps171
    go_wp2
    go_ret
    exact ⟨rfl, rfl⟩
  | succ m =>
    obtain ⟨b, off, rfl, hc⟩ := h.cells (by omega)
    have hcm := hc m (by omega)
    have hx := h.ok.dg m
    have hx2 := bl_32 _ hx
    have hlast := hid (hb (by intro e; subst e; simp at hl))
    have HL := hid hl
    clear hl hb hc h ht
    go_enter Tryz.func171, Tryz.ntmps171
    go_wp2_with (go_at_call 138; refine (len32_any _ _ hx).mono ?_; rintro e w' ⟨rfl, rfl⟩)
    go_ret
    refine ⟨?_, rfl⟩
    rw [hlast.out, HL.out]
    exact congrArg (fun z => Ending.returned (.int .i64 z)) (by simp)
end Go.Proofs.YtkapejcbmonfkaaGreatDoor
