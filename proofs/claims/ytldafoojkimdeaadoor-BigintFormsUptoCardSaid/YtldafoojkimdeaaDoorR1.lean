/- Walks of the document's answer: cut, bit, laid. No condition but those that each theorem names. -/
import Derived.Test.YtldafoojkimdeaaDoorImem
namespace Go.Proofs.YtldafoojkimdeaaDoor
open Go.RowKit Lm

set_option maxRecDepth 100000 in
set_option maxHeartbeats 400000 in
theorem cutR (ao : Option Addr) (len cap : Nat) (A : List Nat) (w : World) (h : Ri w ao len cap A) :
    Calls Tryd.prog 98 #[.slice ao len cap] w fun e w' => e = .returned (.slice ao (tl A).length cap) ∧ w = w' := by
  have hl := h.size
  have hr := h.room
  have hm := h.most
  have HL := hid hl; clear hl
  go_enter Tryd.func98, Tryd.ntmps98
  go_wp2
  go_loop [3] (fun n => ∃ k : Nat, k ≤ len ∧ n = .int .i64 k ∧ Hid (tl (A.take k) = tl A)) (fun n => (intOf n).toNat)
  case atStart => exact ⟨len, Nat.le_refl _, rfl, by rw [List.take_of_length_le (Nat.le_of_eq HL.out)]; exact hid rfl⟩
  case round =>
    obtain ⟨k, hk, rfl, ht⟩ := hrel
    cases k with
    | zero =>
      have e0 : tl A = [] := by rw [← ht.out]; rfl
      have H0 := hid e0; clear e0
      go_wp2
      go_ret
      exact ⟨by rw [H0.out]; rfl, rfl⟩
    | succ m =>
      obtain ⟨b, off, rfl, hc⟩ := h.cells (by omega)
      have hcm := hc m (by omega)
      clear hc h
      by_cases hz : dg A m = 0
      · have hz' : ((dg A m : Int) == 0) = true := by simp [hz]
        have HZ := hid hz; clear hz
        go_wp2
        go_round
        case rel => exact ⟨m, by omega, by go_num, by rw [← tl_take_zero A m (by rw [HL.out]; omega) HZ.out]; exact ht⟩
        case measure => simp [intOf]
      · have hz' : ((dg A m : Int) == 0) = false := by simp [hz]
        have HT := hid (tl_take_top A m (by rw [HL.out]; omega) hz)
        clear hz
        go_wp2
        go_ret
        exact ⟨by rw [← ht.out, HT.out, List.length_take, HL.out, Nat.min_eq_left hk]; rfl, rfl⟩

set_option maxRecDepth 100000 in
set_option maxHeartbeats 400000 in
theorem bitR (ao : Option Addr) (len cap : Nat) (A : List Nat) (i : Nat) (w : World) (h : Ri w ao len cap A) :
    Calls Tryd.prog 105 #[.slice ao len cap, .int .i64 (i : Int)] w fun e w' => e = .returned (.int .i64 (dg A i : Int)) ∧ w = w' := by
  have hl := hid h.size
  by_cases hi : i < len
  · obtain ⟨b, off, rfl, hc⟩ := h.cells (by omega)
    have hcm := hc i hi
    have hr := h.room
    clear hc h
    go_enter Tryd.func105, Tryd.ntmps105
    go_wp2
    go_ret
    exact ⟨rfl, rfl⟩
  · have e0 := hid (dg_out A i (by rw [hl.out]; omega))
    rw [e0.out]
    go_enter Tryd.func105, Tryd.ntmps105
    go_wp2
    go_ret
    exact ⟨rfl, rfl⟩

set_option maxRecDepth 100000 in
set_option maxHeartbeats 400000 in
theorem bitR_neg (ao : Option Addr) (len cap : Nat) (i : Int) (w : World) (hi : i < 0) :
    Calls Tryd.prog 105 #[.slice ao len cap, .int .i64 i] w fun e w' => e = .returned (.int .i64 0) ∧ w = w' := by
  go_enter Tryd.func105, Tryd.ntmps105
  go_wp2
  go_ret
  exact ⟨rfl, rfl⟩

set_option maxRecDepth 100000 in
set_option maxHeartbeats 400000 in
theorem laidR (n : Bool) (ao : Option Addr) (len cap : Nat) (A : List Nat) (w : World) (h : Ri w ao len cap A) (hb : B1 A) :
    Calls Tryd.prog 68 #[.bool n, .slice ao len cap] w fun e w' => ∃ n' len', e = .returned (.agg #[.bool n', .slice ao len' cap]) ∧ len' ≤ len ∧ Big w' n' ao len' cap (sg n A) ∧ Below w.heap.size w w' := by
  have hB := Big.of (n := n) h hb
  have hle := hid (Nat.le_trans (tl_length_le A) (Nat.le_of_eq h.size))
  by_cases h0 : 0 < (tl A).length
  · have hd : decide (0 < (tl A).length) = true := decide_eq_true h0
    cases n with
    | true =>
      rw [hd] at hB
      go_enter Tryd.func68, Tryd.ntmps68
      go_wp2_with (go_at_call 98; refine (cutR _ _ _ A _ (h.alloc _)).mono ?_; rintro e w' ⟨rfl, rfl⟩)
      refine bodyPost_ret (v := .agg #[.bool true, .slice ao (tl A).length cap]) (by simp [results, Tryd.results68, go_sem]) rfl ⟨_, _, rfl, hle.out, ?_, ?_⟩
      · exact hB.alloc _
      · exact (Below.refl _ _).alloc (Nat.le_refl _) _
    | false =>
      go_enter Tryd.func68, Tryd.ntmps68
      go_wp2_with (go_at_call 98; refine (cutR _ _ _ A _ (h.alloc _)).mono ?_; rintro e w' ⟨rfl, rfl⟩)
      refine bodyPost_ret (v := .agg #[.bool false, .slice ao (tl A).length cap]) (by simp [results, Tryd.results68, go_sem]) rfl ⟨_, _, rfl, hle.out, ?_, ?_⟩
      · exact hB.alloc _
      · exact (Below.refl _ _).alloc (Nat.le_refl _) _
  · have hd : decide (0 < (tl A).length) = false := decide_eq_false h0
    rw [hd, Bool.and_false] at hB
    cases n with
    | true =>
      go_enter Tryd.func68, Tryd.ntmps68
      go_wp2_with (go_at_call 98; refine (cutR _ _ _ A _ (h.alloc _)).mono ?_; rintro e w' ⟨rfl, rfl⟩)
      refine bodyPost_ret (v := .agg #[.bool false, .slice ao (tl A).length cap]) (by simp [results, Tryd.results68, go_sem]) rfl ⟨_, _, rfl, hle.out, ?_, ?_⟩
      · exact hB.alloc _
      · exact (Below.refl _ _).alloc (Nat.le_refl _) _
    | false =>
      go_enter Tryd.func68, Tryd.ntmps68
      go_wp2_with (go_at_call 98; refine (cutR _ _ _ A _ (h.alloc _)).mono ?_; rintro e w' ⟨rfl, rfl⟩)
      refine bodyPost_ret (v := .agg #[.bool false, .slice ao (tl A).length cap]) (by simp [results, Tryd.results68, go_sem]) rfl ⟨_, _, rfl, hle.out, ?_, ?_⟩
      · exact hB.alloc _
      · exact (Below.refl _ _).alloc (Nat.le_refl _) _
end Go.Proofs.YtldafoojkimdeaaDoor
