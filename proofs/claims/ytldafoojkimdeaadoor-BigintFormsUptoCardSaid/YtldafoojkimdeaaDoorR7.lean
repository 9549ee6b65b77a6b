/- Walks of the document's answer: To, Same. No condition but those that each theorem names. -/
import Derived.Test.YtldafoojkimdeaaDoorR6
import Derived.Test.YtldafoojkimdeaaDoorW9
namespace Go.Proofs.YtldafoojkimdeaaDoor
open Go.RowKit Lm

theorem wrap_dbl_sub {z s : Int} (b : Int) (h : z = wrap64 s) : wrap64 (wrap64 (2 * z) - b) = wrap64 (2 * s - b) := by subst h; unfold wrap64; omega
theorem wrap_dbl_add {z s : Int} (b : Int) (h : z = wrap64 s) : wrap64 (wrap64 (2 * z) + b) = wrap64 (2 * s + b) := by subst h; unfold wrap64; omega
theorem wrap_lo (s : Int) : -9223372036854775808 ≤ wrap64 s := by unfold wrap64; omega
theorem wrap_hi (s : Int) : wrap64 s ≤ 9223372036854775807 := by unfold wrap64; omega
theorem wrap_fits {s : Int} (h : fits64 s = true) : wrap64 s = s := by unfold fits64 at h; simp at h; unfold wrap64; omega
theorem wrap_unfit {s : Int} (h : fits64 s = false) : wrap64 s - s ≠ 0 := by
  have h1 := wrap_lo s
  have h2 := wrap_hi s
  intro e
  have : fits64 s = true := by unfold fits64; simp; omega
  rw [h] at this; cases this
theorem sg_drop_neg (L : List Nat) (m : Nat) : sg true (L.drop m) = 2 * sg true (L.drop (m + 1)) - (dg L m : Int) := by
  unfold sg; simp; rw [bv_drop_dg]; omega
theorem sg_drop_pos (L : List Nat) (m : Nat) : sg false (L.drop m) = 2 * sg false (L.drop (m + 1)) + (dg L m : Int) := by
  unfold sg; simp; rw [bv_drop_dg]; omega
theorem fits_not {n : Bool} {L : List Nat} (tL : Top L) (h : 64 < L.length) : fits64 (sg n L) = false := by
  have h1 := btop_ge tL (by intro e; rw [e] at h; simp at h)
  have h2 : 2 ^ 64 ≤ 2 ^ (L.length - 1) := Nat.pow_le_pow_right (by decide) (by omega)
  have h3 : (2 : Nat) ^ 64 = 18446744073709551616 := by decide
  unfold fits64 sg
  cases n <;> simp <;> omega
theorem new1 {w wz : World} {o1 : Obj} (hz : wz = w.alloc o1) : wz.heap[w.heap.size]? = some o1 ∧ Below w.heap.size w wz ∧ w.heap.size + 1 ≤ wz.heap.size := by
  subst hz
  exact ⟨heap_alloc_new w o1, (Below.refl _ _).alloc (Nat.le_refl _) _, by simp⟩

set_option maxRecDepth 100000 in
set_option maxHeartbeats 2000000 in
theorem toR (n : Bool) (xo : Option Addr) (xl xc : Nat) (v : Int) (w : World) (h : Big w n xo xl xc v) :
    Calls Tryd.prog 27 #[.agg #[.bool n, .slice xo xl xc]] w fun e w' => e = .returned (.tuple #[.int .i64 (as64 v), .bool (fits64 v)]) ∧ Below w.heap.size w w' := by
  have hB := h
  obtain ⟨L, rL, bL, tL, _, ev⟩ := h
  have HL := hid rL.size
  by_cases h64 : 64 < xl
  · have hf : fits64 v = false := by rw [← ev]; exact fits_not tL (by rw [HL.out]; exact h64)
    rw [as64_out _ hf, hf]
    clear hf ev hB rL
    go_enter Tryd.func27, Tryd.ntmps27
    go_wp2
    go_ret2
    exact ⟨rfl, (Below.refl _ _).alloc (Nat.le_refl _) _⟩
  · have HV := hid ev
    clear ev
    go_enter Tryd.func27, Tryd.ntmps27
    go_wp2_with fail
    obtain ⟨wz, hz⟩ : ∃ wz, wz = w.alloc (.cells #[.bool n, .slice xo xl xc] 28) := ⟨_, rfl⟩
    obtain ⟨hpx, hzb, hzl⟩ := new1 hz
    rw [← hz]
    clear hz
    obtain ⟨x0, x1, _, _⟩ := two_cells hpx
    have zL := rL.keep hzb
    have zB := hB.keep hzb
    clear rL hB
    have HP := hid hpx
    clear hpx
    go_loop [4, 5] (fun c i => ∃ (k : Nat) (z : Int), k ≤ xl ∧ i = .int .i64 ((k : Int) - 1) ∧ c = .int .i64 z ∧ Hid (z = wrap64 (sg n (L.drop k)))) (fun _ i => (intOf i + 1).toNat)
    case atStart => exact ⟨xl, 0, Nat.le_refl _, rfl, rfl, hid (by rw [List.drop_eq_nil_of_le (by rw [HL.out]; exact Nat.le_refl _), sg_nil]; unfold wrap64; omega)⟩
    case round =>
      obtain ⟨k, z, hk, rfl, rfl, hz⟩ := hrel
      cases k with
      | zero =>
        have HZ : Hid (z = wrap64 v) := hid (by rw [hz.out, List.drop_zero, HV.out])
        have z1 : -9223372036854775808 ≤ z := by rw [HZ.out]; exact wrap_lo v
        have z2 : z ≤ 9223372036854775807 := by rw [HZ.out]; exact wrap_hi v
        have Z1 := hid z1
        have Z2 := hid z2
        clear z1 z2
        cases hf : fits64 v with
        | true =>
          have HE : Hid (z = as64 v) := hid (by rw [HZ.out, as64_in _ hf, wrap_fits hf])
          have HS : Hid ((z - v).sign = 0) := hid (by rw [HZ.out, wrap_fits hf, Int.sub_self]; rfl)
          have HF := hid hf
          clear hf
          go_wp2_with (first
            | (go_at_call 25; refine (smallR z _ Z1.out Z2.out).mono ?_; rintro e w2 ⟨nb, ob, lb, cb, rfl, hlb, bB, hb2⟩; obtain ⟨u0, u1, _, _⟩ := two_cells (heap_keep HP.out hb2); have h2s := hb2.size; have v0 : ∀ o, (w2.alloc o).cell? ⟨w.heap.size, 0, none⟩ = some (.bool n) := (fun o => by rw [World.cell?_alloc_past _ _ _ (by omega)]; exact u0); have v1 : ∀ o, (w2.alloc o).cell? ⟨w.heap.size, 1, none⟩ = some (.slice xo xl xc) := (fun o => by rw [World.cell?_alloc_past _ _ _ (by omega)]; exact u1))
            | (go_at_call 31; refine (cmpR _ _ _ _ z _ _ _ _ v _ (bB.alloc _) ((zB.keep hb2).alloc _) (by omega) (by omega)).mono ?_; rintro e w3 ⟨rfl, hb3⟩; rw [HS.out]))
          go_ret2
          refine ⟨by rw [HE.out, HF.out]; rfl, (hzb.trans (Below.mono hb2 (by omega))).trans (Below.mono (balloc hb3) (by omega))⟩
        | false =>
          have HS : Hid ((z - v).sign ≠ 0) := hid (by rw [HZ.out]; exact fun e => wrap_unfit hf (Int.sign_eq_zero_iff_zero.1 e))
          have hs : ((z - v).sign != 0) = true := by simpa using HS.out
          have HF := hid hf
          have HA := hid (as64_out _ hf)
          clear hf
          go_wp2_with (first
            | (go_at_call 25; refine (smallR z _ Z1.out Z2.out).mono ?_; rintro e w2 ⟨nb, ob, lb, cb, rfl, hlb, bB, hb2⟩; obtain ⟨u0, u1, _, _⟩ := two_cells (heap_keep HP.out hb2); have h2s := hb2.size; have v0 : ∀ o, (w2.alloc o).cell? ⟨w.heap.size, 0, none⟩ = some (.bool n) := (fun o => by rw [World.cell?_alloc_past _ _ _ (by omega)]; exact u0); have v1 : ∀ o, (w2.alloc o).cell? ⟨w.heap.size, 1, none⟩ = some (.slice xo xl xc) := (fun o => by rw [World.cell?_alloc_past _ _ _ (by omega)]; exact u1))
            | (go_at_call 31; refine (cmpR _ _ _ _ z _ _ _ _ v _ (bB.alloc _) ((zB.keep hb2).alloc _) (by omega) (by omega)).mono ?_; rintro e w3 ⟨rfl, hb3⟩))
          go_ret2
          refine ⟨by rw [HA.out, HF.out]; rfl, (hzb.trans (Below.mono hb2 (by omega))).trans (Below.mono (balloc hb3) (by omega))⟩
      | succ m =>
        obtain ⟨b, off, rfl, hc⟩ := zL.cells (by omega)
        have hcm := hc m (by omega)
        clear hc
        have hi : ((m + 1 : Nat) : Int) - 1 = (m : Int) := by omega
        rw [hi]; clear hi
        cases n with
        | true =>
          have HN : Hid (wrap64 (wrap64 (2 * z) - (dg L m : Int)) = wrap64 (sg true (L.drop m))) := hid (by rw [sg_drop_neg]; exact wrap_dbl_sub _ hz.out)
          go_wp2
          go_round
          case rel => exact ⟨m, _, by omega, rfl, rfl, HN⟩
          case measure => simp [intOf]
        | false =>
          have HN : Hid (wrap64 (wrap64 (2 * z) + (dg L m : Int)) = wrap64 (sg false (L.drop m))) := hid (by rw [sg_drop_pos]; exact wrap_dbl_add _ hz.out)
          go_wp2
          go_round
          case rel => exact ⟨m, _, by omega, rfl, rfl, HN⟩
          case measure => simp [intOf]
end Go.Proofs.YtldafoojkimdeaaDoor
