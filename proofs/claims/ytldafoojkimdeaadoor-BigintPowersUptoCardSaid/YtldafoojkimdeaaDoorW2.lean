/- Walks of package bigint's smallest functions. -/
import Derived.Test.YtldafoojkimdeaaDoorW1
namespace Go.Proofs.YtldafoojkimdeaaDoor
open Go.RowKit Lm

theorem or_join (x y : Nat) (hx : x < 4294967296) (hy : y < 4294967296) : bits .or .u64 ((x : Int) * 4294967296) (y : Int) = ((x * 4294967296 + y : Nat) : Int) := by
  have e := u64_or_nat (x * 4294967296) y (by omega) (by omega)
  rw [nat_join 32 (x * 4294967296) y (by simp) (by simpa using hy)] at e
  rw [← e]
  simp

theorem take2_nil (A : List Nat) (k : Nat) (h : A.length ≤ k ∨ 2 ≤ k) : val ((A.take 2).drop k) = 0 := by
  rw [List.drop_eq_nil_of_le (by rw [List.length_take]; omega)]; rfl
theorem take2_step (A : List Nat) (m : Nat) (h : m + 1 ≤ 2) (h2 : m + 1 ≤ A.length) : val ((A.take 2).drop m) = val ((A.take 2).drop (m + 1)) * 4294967296 + dg A m := by
  have e : (A.take 2).drop m = dg A m :: (A.take 2).drop (m + 1) := by
    rw [List.drop_eq_getElem_cons (by rw [List.length_take]; omega)]
    congr 1
    unfold dg
    rw [getD_in _ _ (by omega), List.getElem_take]
  rw [e, val_cons]; omega
theorem take2_lt (A : List Nat) (hA : Ok A) : val (A.take 2) < 18446744073709551616 := by
  have := val_lt (hA.take 2)
  have h2 : P (A.take 2).length ≤ P 2 := P_le (by rw [List.length_take]; omega)
  have e : P 2 = 18446744073709551616 := by decide
  omega

set_option maxHeartbeats 400000 in
theorem wordOf_any (ao : Option Addr) (len cap : Nat) (A : List Nat) (w : World) (hRd : Rd w ao len cap A) :
    Calls Tryd.prog 72 #[.slice ao len cap] w fun e w' => e = .returned (.int .u64 ((val (A.take 2) : Nat) : Int)) ∧ w = w' := by
  have hl := hRd.size
  have hr := hRd.room
  have hm := hRd.most
  have HL := hid hl
  clear hl
  obtain ⟨L, hL⟩ : ∃ L, L = len := ⟨_, rfl⟩
  have hL1 : L ≤ len := by omega
  have HLL := hid hL; clear hL
  rcases (show len < 2 ∨ 2 < len ∨ 2 = len by omega) with h2 | h2 | rfl
  all_goals
    go_enter Tryd.func72, Tryd.ntmps72
    go_wp2
    go_loop [3, 4] (fun n i => ∃ k v : Nat, k ≤ 2 ∧ k ≤ L ∧ i = .int .i64 ((k : Int) - 1) ∧ Hid ((1 ≤ k → v < 4294967296) ∧ (2 ≤ k → v = 0)) ∧ Hid (v = val ((A.take 2).drop k)) ∧ n = .int .u64 (v : Int)) (fun _ i => (intOf i + 1).toNat)
    case atStart =>
      have h0 := take2_nil A
      have := HL.out
      have := HLL.out
      first
       | exact ⟨2, 0, by omega, by omega, rfl, hid ⟨fun _ => by decide, fun _ => rfl⟩, hid (h0 2 (by omega)).symm, rfl⟩
       | exact ⟨len, 0, by omega, by omega, rfl, hid ⟨fun _ => by decide, fun _ => rfl⟩, hid (h0 len (by omega)).symm, rfl⟩
    case round =>
      obtain ⟨k, v, hk, hk2, rfl, hv, hvv, rfl⟩ := hrel
      cases k with
      | zero =>
        clear hv
        go_wp2
        go_ret
        exact ⟨by rw [hvv.out]; rfl, rfl⟩
      | succ m =>
        obtain ⟨b, off, rfl, hc⟩ := hRd.cells (by omega)
        have hcm := hc m (by omega)
        have hx := hRd.ok.dg m
        have hv' := hv.out.1 (by omega)
        have hj := or_join v (dg A m) hv' hx
        clear hc
        go_wp2
        go_round
        case rel => exact ⟨m, v * 4294967296 + dg A m, by omega, by omega, by go_num, hid ⟨fun _ => by have := hv.out.2 (by omega); omega, fun _ => by omega⟩, hid (by rw [take2_step A m (by omega) (by have := HL.out; omega), ← hvv.out]), rfl⟩
        case measure => simp [intOf]
end Go.Proofs.YtldafoojkimdeaaDoor
