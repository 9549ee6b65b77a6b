/- Walks: divideSmall. -/
import Derived.Test.YtldafoojkimdeaaDoorW3
namespace Go.Proofs.YtldafoojkimdeaaDoor
open Go.RowKit Lm

theorem set_low (Q : List Nat) (m x : Nat) : (List.replicate (m + 1) 0 ++ Q).set m x = List.replicate m 0 ++ (x :: Q) := by
  rw [List.replicate_succ', List.append_assoc, List.set_append_right _ _ (by simp)]
  simp
theorem drop_dg (A : List Nat) (m : Nat) (h : m < A.length) : val (A.drop m) = dg A m + 4294967296 * val (A.drop (m + 1)) := by
  rw [List.drop_eq_getElem_cons h, val_cons]
  unfold dg; rw [getD_in _ _ h]
theorem div_step {r x b q r' vq v : Nat} (h : v = vq * b + r) (he : r * 4294967296 + x = q * b + r') : x + 4294967296 * v = (q + 4294967296 * vq) * b + r' := by grind
theorem quo_lt (r x b : Nat) (hr : r < b) (hx : x < 4294967296) : (r * 4294967296 + x) / b < 4294967296 := by
  rw [Nat.div_lt_iff_lt_mul (by omega)]
  have := Nat.mul_le_mul_right 4294967296 (show r + 1 ≤ b by omega)
  rw [Nat.mul_comm 4294967296 b]; omega

set_option maxRecDepth 100000 in
set_option maxHeartbeats 2000000 in
theorem divideSmall_any (aa : Option Addr) (la ca : Nat) (A : List Nat) (b : Nat) (w : World) (hA : Rd w aa la ca A) (hsm : la ≤ 5000) (hb0 : 0 < b) (hbl : b < 4294967296) :
    Calls Tryd.prog 114 #[.slice aa la ca, .int .u32 (b : Int)] w fun e w' => ∃ g Q r, e = .returned (.tuple #[.slice (some ⟨g, 0, none⟩) Q.length Q.length, .int .u32 ((r : Nat) : Int)]) ∧ w.heap.size ≤ g ∧ Rw w' g Q ∧ Q.length = la ∧ Ok Q ∧ val A = val Q * b + r ∧ r < b ∧ Below w.heap.size w w' := by
  obtain ⟨i0, hi, hz0, hz1, hz2⟩ := info_parts Tryd.info43
  have hla := hid hA.size
  go_enter Tryd.func114, Tryd.ntmps114
  go_wp2_with (at_make; refine wpList_make_full _ rfl _ _ 22 rfl w.heap.size 43 i0 (.int .u32 0) 1 Tryd.underlying22 hi hz0 hz1 .i64 .i64 _ _ la rfl rfl (by omega) (by omega) ?c1 ?c2 ?c3 ?_)
  case c1 => rw [hz2]; omega
  case c2 => unfold maxLen; omega
  case c3 => exact Nat.le_refl _
  intro w1 hown hgrow
  have hrow : Rw w1 w.heap.size (List.replicate la 0) := Rw.of_own hown (made_zeros _ _ (by omega))
  have hbel : Below w.heap.size w w1 := (Below.refl _ _).grown hgrow (Nat.le_refl _) (by intro k hk; simp at hk)
  clear hown hgrow hi hz0 hz1 hz2
  go_wp2
  go_loopw [7, 8] (fun c i wr => ∃ (k r : Nat) (Q : List Nat), k ≤ la ∧ i = .int .i64 ((k : Int) - 1) ∧ c = .int .u64 (r : Int) ∧ r < b ∧ Hid (Q.length = la - k) ∧ Ok Q ∧ Hid (val (A.drop k) = val Q * b + r) ∧
      Rw wr w.heap.size (List.replicate k 0 ++ Q) ∧ Below w.heap.size w wr) (fun _ i _ => (intOf i + 1).toNat)
  case atStart => exact ⟨la, 0, [], by omega, rfl, rfl, hb0, hid (by simp), Ok.nil, hid (by rw [List.drop_eq_nil_of_le (by rw [hla.out]; omega)]; simp [val]), by simpa using hrow, hbel⟩
  case round =>
    obtain ⟨k, r, Q, hk, rfl, rfl, hr, hQ, hok, hval, hR, hB1⟩ := hrel
    clear hrow hbel
    cases k with
    | zero =>
      have hv := hval.out
      rw [List.drop_zero] at hv
      have HF := hid hv
      clear hv
      go_wp2
      go_ret2
      refine ⟨w.heap.size, Q, r, by rw [hQ.out]; rfl, Nat.le_refl _, by simpa using hR, by rw [hQ.out]; omega, hok, HF.out, hr, hB1⟩
    | succ m =>
      obtain ⟨ba, off, rfl, hc⟩ := (hA.keep hB1).cells (by omega)
      have hcell := hc m (by omega)
      have hx := hA.ok.dg m
      have hfr := hR.free m
      have hsz : m < (List.replicate (m + 1) 0 ++ Q).length := by rw [List.length_append, List.length_replicate]; omega
      have hcur := hR.cell m hsz
      have hj := or_join r (dg A m) (by omega) hx
      have hq := quo_lt r (dg A m) b hr hx
      have hq' : ((r : Int) * 4294967296 + (dg A m : Int)) / (b : Int) < 4294967296 := by
        have := Int.ofNat_lt.2 hq; simpa using this
      have hq0 : 0 ≤ ((r : Int) * 4294967296 + (dg A m : Int)) / (b : Int) := Int.ediv_nonneg (by omega) (by omega)
      have HQ := hid hq
      clear hc hsz hq
      go_wp2
      go_roundw
      case rel =>
        refine ⟨m, (r * 4294967296 + dg A m) % b, (r * 4294967296 + dg A m) / b :: Q, by omega, by go_num, ?_, Nat.mod_lt _ hb0, hid (by rw [List.length_cons, hQ.out]; omega), hok.cons HQ.out, hid ?_, ?_, hB1.setCell (Nat.le_refl _) _⟩
        · simp
        · rw [drop_dg A m (by rw [hla.out]; omega), val_cons]
          exact div_step hval.out (Nat.div_add_mod' _ _).symm
        · have := hR.set' m ((r * 4294967296 + dg A m) / b) (z := ((r : Int) * 4294967296 + (dg A m : Int)) / (b : Int)) (by simp)
          rwa [set_low] at this
      case measure => simp [intOf]
end Go.Proofs.YtldafoojkimdeaaDoor
