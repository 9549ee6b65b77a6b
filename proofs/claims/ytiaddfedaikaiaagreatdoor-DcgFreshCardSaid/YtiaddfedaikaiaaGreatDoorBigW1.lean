/- Walks of package bigint's smallest functions. -/
import Derived.Test.YtiaddfedaikaiaaGreatDoorBigMemm
namespace Go.Proofs.YtiaddfedaikaiaaGreatDoor
open Go.RowKit Lm

set_option maxHeartbeats 400000 in
theorem trim_any (ao : Option Addr) (len cap : Nat) (A : List Nat) (w : World) (h : Rd w ao len cap A) :
    Calls Tryz.prog 196 #[.slice ao len cap] w fun e w' => e = .returned (.slice ao (tl A).length cap) ∧ w = w' := by
  have hl := h.size
  have hr := h.room
  have hm := h.most
  have HL := hid hl; clear hl
  go_enter Tryz.func196, Tryz.ntmps196
  go_wp2
  go_loop [3] (fun n => ∃ k : Nat, k ≤ len ∧ n = .int .i64 k ∧ Hid (tl (A.take k) = tl A)) (fun n => (intOf n).toNat)
  case atStart => exact ⟨len, Nat.le_refl _, rfl, by rw [List.take_of_length_le (Nat.le_of_eq HL.out)]; exact hid rfl⟩
  case round =>
    obtain ⟨k, hk, rfl, ht⟩ := hrel
    cases k with
    | zero =>
      have e0 : tl A = [] := by rw [← ht.out]; rfl
      have H0 := hid e0; clear e0
      go_wp2
      go_ret
      exact ⟨by rw [H0.out]; rfl, rfl⟩
    | succ m =>
      obtain ⟨b, off, rfl, hc⟩ := h.cells (by omega)
      have hcm := hc m (by omega)
      have hx := h.ok.dg m
      clear hc h
      by_cases hz : dg A m = 0
      · have hz' : ((dg A m : Int) == 0) = true := by simp [hz]
        have HZ := hid hz; clear hz
        go_wp2
        go_round
        case rel => exact ⟨m, by omega, by go_num, by rw [← tl_take_zero A m (by rw [HL.out]; omega) HZ.out]; exact ht⟩
        case measure => simp [intOf]
      · have hz' : ((dg A m : Int) == 0) = false := by simp [hz]
        have HT := hid (tl_take_top A m (by rw [HL.out]; omega) hz)
        clear hz
        go_wp2
        go_ret
        exact ⟨by rw [← ht.out, HT.out, List.length_take, HL.out, Nat.min_eq_left hk]; rfl, rfl⟩

end Go.Proofs.YtiaddfedaikaiaaGreatDoor
