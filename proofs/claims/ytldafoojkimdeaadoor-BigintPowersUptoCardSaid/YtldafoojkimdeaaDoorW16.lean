/- Walks: guessTimes. -/
import Derived.Test.YtldafoojkimdeaaDoorW6
import Derived.Test.YtldafoojkimdeaaDoorKnuth
namespace Go.Proofs.YtldafoojkimdeaaDoor
open Go.RowKit Lm

theorem step_back {t s d r : Nat} (h : t * d + s = r) (h1 : 1 ≤ t) : (t - 1) * d + (s + d) = r := by
  obtain ⟨u, rfl⟩ : ∃ u, t = u + 1 := ⟨t - 1, by omega⟩
  rw [Nat.add_mul, Nat.one_mul] at h
  rw [Nat.add_sub_cancel]; omega
theorem back_cast (t : Nat) (h : 1 ≤ t) : (t : Int) - 1 = ((t - 1 : Nat) : Int) := by omega

set_option maxRecDepth 100000 in
set_option maxHeartbeats 2000000 in
theorem guess_any (ar : Option Addr) (cr : Nat) (R : List Nat) (ad : Option Addr) (cd : Nat) (D : List Nat) (m : Nat) (w : World) (hR : Rd w ar (m + 3) cr R) (hD : Rd w ad (m + 2) cd D) (hm : m ≤ 5000)
    (hh : 2147483648 ≤ dg D (m + 1)) (hlt : val R < val D * 4294967296) :
    Calls Tryd.prog 126 #[.slice ar (m + 3) cr, .slice ad (m + 2) cd] w fun e w' => ∃ t : Nat, e = .returned (.int .u64 (t : Int)) ∧ t < 4294967296 ∧ val R / val D ≤ t ∧ t ≤ val R / val D + 1 ∧ ∃ q, w' = w.drewN q := by
  have hK := Kn.of_limbs hR.size hD.size hR.ok hD.ok hh hlt
  obtain ⟨q, hq⟩ : ∃ q, q = val R / val D := ⟨_, rfl⟩
  have HK := hid hK
  have HQ := hid hq
  have b0 := hR.ok.dg (m + 2)
  have b1 := hK.b1
  have b2 := hK.b2
  have e1 := hK.e1
  have e2 := hK.e2
  obtain ⟨b, off, rfl, hc⟩ := hR.cells (by omega)
  obtain ⟨b', off', rfl, hc'⟩ := hD.cells (by omega)
  have k0 := hc (m + 2) (by omega)
  have k1 := hc (m + 1) (by omega)
  have k2 := hc m (by omega)
  have j1 := hc' (m + 1) (by omega)
  have j2 := hc' m (by omega)
  have hor := or_join (dg R (m + 2)) (dg R (m + 1)) b0 b1
  have hd := hh
  clear hc hc' hK hlt hq hR hD hh
  generalize dg R (m + 2) = r0 at *
  generalize dg R (m + 1) = r1 at *
  generalize dg R m = r2 at *
  generalize dg D (m + 1) = d1 at *
  generalize dg D m = d2 at *
  have HT := hid (HK.out.first_le)
  have HF := hid (HK.out.first)
  have hdiv : (((r0 : Int) * 4294967296 + (r1 : Int)) / (d1 : Int)) = (((r0 * 4294967296 + r1) / d1 : Nat) : Int) := by simp
  have hmod : (((r0 : Int) * 4294967296 + (r1 : Int)) % (d1 : Int)) = (((r0 * 4294967296 + r1) % d1 : Nat) : Int) := by simp
  have HD := hid hdiv
  have HMo := hid hmod
  clear hdiv hmod
  go_enter Tryd.func126, Tryd.ntmps126
  go_wp2
  go_quiet (fail)
  go_wp2
  go_quiet (fail)
  go_wp2
  go_loopw [8, 9] (fun x y wr => ∃ (t s : Nat), x = .int .u64 (t : Int) ∧ y = .int .u64 (s : Int) ∧ Hid (t * d1 + s = r0 * 4294967296 + r1) ∧ s < 4294967296 ∧ Hid (q ≤ t) ∧ t ≤ 4294967297 ∧ ∃ n, wr = w.drewN n) (fun x _ _ => (intOf x).toNat)
  case atStart =>
    refine ⟨(r0 * 4294967296 + r1) / d1, (r0 * 4294967296 + r1) % d1, congrArg (Value.int .u64) HD.out, congrArg (Value.int .u64) HMo.out, hid (by rw [Nat.mul_comm]; exact Nat.div_add_mod _ _), ?_, hid (by rw [HQ.out]; exact HF.out), HT.out, (by first | exact ⟨_, rfl⟩ | exact drew2 _ _ _)⟩
    have := Nat.mod_lt (r0 * 4294967296 + r1) (show 0 < d1 by omega)
    omega
  case round =>
    obtain ⟨t, s, rfl, rfl, hts, hs, hqt, ht, n, rfl⟩ := hrel
    have hqs := HK.out.small
    rw [← HQ.out] at hqs
    have HQS := hid hqs
    clear hqs HT HF HD HMo hor k0 k1 j1
    by_cases hbig : 4294967296 ≤ t
    · have hg : ((t : Int) / 4294967296 != 0) = true := by rw [bne_iff_ne]; omega
      by_cases hbr : 4294967296 ≤ s + d1
      · have hg2 : (((s : Int) + (d1 : Int)) / 4294967296 != 0) = true := by rw [bne_iff_ne]; omega
        go_wp2
        go_quiet (fail)
        go_wp2
        have hle : t ≤ 4294967296 := by
          by_cases h : t = 4294967297
          · have h1 := hts.out
            rw [h] at h1
            have := HK.out.great h1
            omega
          · omega
        have hq1 := HQS.out
        go_ret
        refine ⟨t - 1, congrArg (fun z => Ending.returned (.int .u64 z)) (back_cast t (by omega)), by omega, by rw [← HQ.out]; omega, by exact HK.out.broke (step_back hts.out (by omega)) hbr (by omega), (by first | exact ⟨_, rfl⟩ | exact drew2 _ _ _)⟩
      · have hg2 : (((s : Int) + (d1 : Int)) / 4294967296 != 0) = false := by rw [bne_eq_false_iff_eq]; omega
        go_wp2
        go_quiet (fail)
        go_wp2
        have hq1 := HQS.out
        go_roundw
        case rel => exact ⟨t - 1, s + d1, congrArg (Value.int .u64) (back_cast t (by omega)), by go_num, hid (step_back hts.out (by omega)), by omega, hid (by omega), by omega, (by first | exact ⟨_, rfl⟩ | exact drew2 _ _ _)⟩
        case measure => simp [intOf]; omega
    · have hg : ((t : Int) / 4294967296 != 0) = false := by rw [bne_eq_false_iff_eq]; omega
      have hj := or_join s r2 hs b2
      have hp : t * d2 ≤ 4294967295 * 4294967295 := Nat.mul_le_mul (by omega) (by omega)
      have hpi : (t : Int) * (d2 : Int) ≤ 18446744065119617025 := by have := Int.ofNat_le.2 hp; simpa using this
      have hpn : 0 ≤ (t : Int) * (d2 : Int) := Int.mul_nonneg (by omega) (by omega)
      clear hp
      by_cases hc : s * 4294967296 + r2 < t * d2
      · have hci : (s : Int) * 4294967296 + (r2 : Int) < (t : Int) * (d2 : Int) := by have := Int.ofNat_lt.2 hc; simpa using this
        have hlt := HK.out.less hts.out hc
        rw [← HQ.out] at hlt
        clear hc
        by_cases hbr : 4294967296 ≤ s + d1
        · have hg2 : (((s : Int) + (d1 : Int)) / 4294967296 != 0) = true := by rw [bne_iff_ne]; omega
          go_wp2
          go_quiet (fail)
          go_wp2
          go_ret
          refine ⟨t - 1, congrArg (fun z => Ending.returned (.int .u64 z)) (back_cast t (by omega)), by omega, by rw [← HQ.out]; omega, by exact HK.out.broke (step_back hts.out (by omega)) hbr (by omega), (by first | exact ⟨_, rfl⟩ | exact drew2 _ _ _)⟩
        · have hg2 : (((s : Int) + (d1 : Int)) / 4294967296 != 0) = false := by rw [bne_eq_false_iff_eq]; omega
          go_wp2
          go_quiet (fail)
          go_wp2
          go_roundw
          case rel => exact ⟨t - 1, s + d1, congrArg (Value.int .u64) (back_cast t (by omega)), by go_num, hid (step_back hts.out (by omega)), by omega, hid (by omega), by omega, (by first | exact ⟨_, rfl⟩ | exact drew2 _ _ _)⟩
          case measure => simp [intOf]; omega
      · have hci : ¬ (s : Int) * 4294967296 + (r2 : Int) < (t : Int) * (d2 : Int) := by
          intro h
          apply hc
          have := Int.ofNat_lt.1 (show ((s * 4294967296 + r2 : Nat) : Int) < ((t * d2 : Nat) : Int) by simpa using h)
          exact this
        have hfin := HK.out.most hts.out (by omega) (by omega)
        rw [← HQ.out] at hfin
        clear hc
        have hq2 := hqt.out
        go_wp2
        go_quiet (fail)
        go_wp2
        go_ret
        exact ⟨t, rfl, by omega, by rw [← HQ.out]; exact hq2, by rw [← HQ.out]; exact hfin, (by first | exact ⟨_, rfl⟩ | exact drew2 _ _ _)⟩
end Go.Proofs.YtldafoojkimdeaaDoor
