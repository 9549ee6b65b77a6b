/- Walks: guessTimes. Walks: takeTimes, putBack. Walks: putBack. Walks: reduceRow. Walks: shiftUp. Walks: negate. And what and, or, exclusive or and complement are of limbs. Walks: shiftDown. Walks: divide, by any number of limbs. -/
import Derived.Test.YtldafoojkimdeaaDoorDividesM2
import Derived.Test.YtldafoojkimdeaaDoorDividesM8
import Derived.Test.YtldafoojkimdeaaDoorDividesM1
import Derived.Test.YtldafoojkimdeaaDoorDividesM3
namespace Go.Proofs.YtldafoojkimdeaaDoor
open Go.RowKit Lm

theorem step_back {t s d r : Nat} (h : t * d + s = r) (h1 : 1 ≤ t) : (t - 1) * d + (s + d) = r := by
  obtain ⟨u, rfl⟩ : ∃ u, t = u + 1 := ⟨t - 1, by omega⟩
  rw [Nat.add_mul, Nat.one_mul] at h
  rw [Nat.add_sub_cancel]; omega
theorem back_cast (t : Nat) (h : 1 ≤ t) : (t : Int) - 1 = ((t - 1 : Nat) : Int) := by omega

set_option maxRecDepth 100000 in
set_option maxHeartbeats 2000000 in
theorem guess_any (ar : Option Addr) (cr : Nat) (R : List Nat) (ad : Option Addr) (cd : Nat) (D : List Nat) (m : Nat) (w : World) (hR : Rd w ar (m + 3) cr R) (hD : Rd w ad (m + 2) cd D) (hm : m ≤ 5000)
    (hh : 2147483648 ≤ dg D (m + 1)) (hlt : val R < val D * 4294967296) :
    Calls Tryd.prog 126 #[.slice ar (m + 3) cr, .slice ad (m + 2) cd] w fun e w' => ∃ t : Nat, e = .returned (.int .u64 (t : Int)) ∧ t < 4294967296 ∧ val R / val D ≤ t ∧ t ≤ val R / val D + 1 ∧ ∃ q, w' = w.drewN q := by
  have hK := Kn.of_limbs hR.size hD.size hR.ok hD.ok hh hlt
  obtain ⟨q, hq⟩ : ∃ q, q = val R / val D := ⟨_, rfl⟩
  have HK := hid hK
  have HQ := hid hq
  have b0 := hR.ok.dg (m + 2)
  have b1 := hK.b1
  have b2 := hK.b2
  have e1 := hK.e1
  have e2 := hK.e2
  obtain ⟨b, off, rfl, hc⟩ := hR.cells (by omega)
  obtain ⟨b', off', rfl, hc'⟩ := hD.cells (by omega)
  have k0 := hc (m + 2) (by omega)
  have k1 := hc (m + 1) (by omega)
  have k2 := hc m (by omega)
  have j1 := hc' (m + 1) (by omega)
  have j2 := hc' m (by omega)
  have hor := or_join (dg R (m + 2)) (dg R (m + 1)) b0 b1
  have hd := hh
  clear hc hc' hK hlt hq hR hD hh
  generalize dg R (m + 2) = r0 at *
  generalize dg R (m + 1) = r1 at *
  generalize dg R m = r2 at *
  generalize dg D (m + 1) = d1 at *
  generalize dg D m = d2 at *
  have HT := hid (HK.out.first_le)
  have HF := hid (HK.out.first)
  have hdiv : (((r0 : Int) * 4294967296 + (r1 : Int)) / (d1 : Int)) = (((r0 * 4294967296 + r1) / d1 : Nat) : Int) := by simp
  have hmod : (((r0 : Int) * 4294967296 + (r1 : Int)) % (d1 : Int)) = (((r0 * 4294967296 + r1) % d1 : Nat) : Int) := by simp
  have HD := hid hdiv
  have HMo := hid hmod
  clear hdiv hmod
  go_enter Tryd.func126, Tryd.ntmps126
  go_wp2
  go_quiet (fail)
  go_wp2
  go_quiet (fail)
  go_wp2
  go_loopw [8, 9] (fun x y wr => ∃ (t s : Nat), x = .int .u64 (t : Int) ∧ y = .int .u64 (s : Int) ∧ Hid (t * d1 + s = r0 * 4294967296 + r1) ∧ s < 4294967296 ∧ Hid (q ≤ t) ∧ t ≤ 4294967297 ∧ ∃ n, wr = w.drewN n) (fun x _ _ => (intOf x).toNat)
  case atStart =>
    refine ⟨(r0 * 4294967296 + r1) / d1, (r0 * 4294967296 + r1) % d1, congrArg (Value.int .u64) HD.out, congrArg (Value.int .u64) HMo.out, hid (by rw [Nat.mul_comm]; exact Nat.div_add_mod _ _), ?_, hid (by rw [HQ.out]; exact HF.out), HT.out, (by first | exact ⟨_, rfl⟩ | exact drew2 _ _ _)⟩
    have := Nat.mod_lt (r0 * 4294967296 + r1) (show 0 < d1 by omega)
    omega
  case round =>
    obtain ⟨t, s, rfl, rfl, hts, hs, hqt, ht, n, rfl⟩ := hrel
    have hqs := HK.out.small
    rw [← HQ.out] at hqs
    have HQS := hid hqs
    clear hqs HT HF HD HMo hor k0 k1 j1
    by_cases hbig : 4294967296 ≤ t
    · have hg : ((t : Int) / 4294967296 != 0) = true := by rw [bne_iff_ne]; omega
      by_cases hbr : 4294967296 ≤ s + d1
      · have hg2 : (((s : Int) + (d1 : Int)) / 4294967296 != 0) = true := by rw [bne_iff_ne]; omega
        go_wp2
        go_quiet (fail)
        go_wp2
        have hle : t ≤ 4294967296 := by
          by_cases h : t = 4294967297
          · have h1 := hts.out
            rw [h] at h1
            have := HK.out.great h1
            omega
          · omega
        have hq1 := HQS.out
        go_ret
        refine ⟨t - 1, congrArg (fun z => Ending.returned (.int .u64 z)) (back_cast t (by omega)), by omega, by rw [← HQ.out]; omega, by exact HK.out.broke (step_back hts.out (by omega)) hbr (by omega), (by first | exact ⟨_, rfl⟩ | exact drew2 _ _ _)⟩
      · have hg2 : (((s : Int) + (d1 : Int)) / 4294967296 != 0) = false := by rw [bne_eq_false_iff_eq]; omega
        go_wp2
        go_quiet (fail)
        go_wp2
        have hq1 := HQS.out
        go_roundw
        case rel => exact ⟨t - 1, s + d1, congrArg (Value.int .u64) (back_cast t (by omega)), by go_num, hid (step_back hts.out (by omega)), by omega, hid (by omega), by omega, (by first | exact ⟨_, rfl⟩ | exact drew2 _ _ _)⟩
        case measure => simp [intOf]; omega
    · have hg : ((t : Int) / 4294967296 != 0) = false := by rw [bne_eq_false_iff_eq]; omega
      have hj := or_join s r2 hs b2
      have hp : t * d2 ≤ 4294967295 * 4294967295 := Nat.mul_le_mul (by omega) (by omega)
      have hpi : (t : Int) * (d2 : Int) ≤ 18446744065119617025 := by have := Int.ofNat_le.2 hp; simpa using this
      have hpn : 0 ≤ (t : Int) * (d2 : Int) := Int.mul_nonneg (by omega) (by omega)
      clear hp
      by_cases hc : s * 4294967296 + r2 < t * d2
      · have hci : (s : Int) * 4294967296 + (r2 : Int) < (t : Int) * (d2 : Int) := by have := Int.ofNat_lt.2 hc; simpa using this
        have hlt := HK.out.less hts.out hc
        rw [← HQ.out] at hlt
        clear hc
        by_cases hbr : 4294967296 ≤ s + d1
        · have hg2 : (((s : Int) + (d1 : Int)) / 4294967296 != 0) = true := by rw [bne_iff_ne]; omega
          go_wp2
          go_quiet (fail)
          go_wp2
          go_ret
          refine ⟨t - 1, congrArg (fun z => Ending.returned (.int .u64 z)) (back_cast t (by omega)), by omega, by rw [← HQ.out]; omega, by exact HK.out.broke (step_back hts.out (by omega)) hbr (by omega), (by first | exact ⟨_, rfl⟩ | exact drew2 _ _ _)⟩
        · have hg2 : (((s : Int) + (d1 : Int)) / 4294967296 != 0) = false := by rw [bne_eq_false_iff_eq]; omega
          go_wp2
          go_quiet (fail)
          go_wp2
          go_roundw
          case rel => exact ⟨t - 1, s + d1, congrArg (Value.int .u64) (back_cast t (by omega)), by go_num, hid (step_back hts.out (by omega)), by omega, hid (by omega), by omega, (by first | exact ⟨_, rfl⟩ | exact drew2 _ _ _)⟩
          case measure => simp [intOf]; omega
      · have hci : ¬ (s : Int) * 4294967296 + (r2 : Int) < (t : Int) * (d2 : Int) := by
          intro h
          apply hc
          have := Int.ofNat_lt.1 (show ((s * 4294967296 + r2 : Nat) : Int) < ((t * d2 : Nat) : Int) by simpa using h)
          exact this
        have hfin := HK.out.most hts.out (by omega) (by omega)
        rw [← HQ.out] at hfin
        clear hc
        have hq2 := hqt.out
        go_wp2
        go_quiet (fail)
        go_wp2
        go_ret
        exact ⟨t, rfl, by omega, by rw [← HQ.out]; exact hq2, by rw [← HQ.out]; exact hfin, (by first | exact ⟨_, rfl⟩ | exact drew2 _ _ _)⟩
end Go.Proofs.YtldafoojkimdeaaDoor

namespace Go.Proofs.YtldafoojkimdeaaDoor
open Go.RowKit Lm

theorem grown_set {w wr : World} {g : Nat} (h : w.grownBy wr (some g)) (i : Nat) (u : Value) : w.grownBy (wr.setCell ⟨g, i, none⟩ u) (some g) :=
  ⟨h.os, h.tape, h.output, by have := h.size; simpa [World.setCell] using this, fun k hk hne => by
    rw [Below.heap_setCell _ _ _ _ (by intro e; exact hne (by rw [e]))]; exact h.block k hk hne⟩
theorem Rw.grown {w wr : World} {g gd : Nat} {D : List Nat} (h : Rw w gd D) (hg : w.grownBy wr (some g)) (hne : gd ≠ g) : Rw wr gd D :=
  ⟨by rw [hg.block gd h.lt (by simpa using hne)]; exact h.block⟩

theorem dg_sub (R0 : List Nat) (off n k : Nat) (h : k < n) : dg ((R0.drop off).take n) k = dg R0 (off + k) := by rw [dg_take _ _ _ h, dg_drop]
theorem len_sub (R0 : List Nat) (off n : Nat) (h : off + n ≤ R0.length) : ((R0.drop off).take n).length = n := by rw [List.length_take, List.length_drop]; omega

theorem take_step {p c bv t y x o low c' bv' s u v : Nat} (h : s + t * u = v + p * (c + bv)) (h1 : c + t * y = low + 4294967296 * c') (h2 : o + low + bv = x + 4294967296 * bv') :
    (s + p * o) + t * (u + p * y) = (v + p * x) + p * 4294967296 * (c' + bv') := by grind

theorem take_last {p c bv t u v s x o F : Nat} (h : s + t * u = v + p * (c + bv)) (ho : o + c + bv = x + 4294967296 * F) : (s + p * o) + t * u = (v + p * x) + p * 4294967296 * F := by grind
theorem flag_o (x c bv : Nat) (hx : x < 4294967296) (hc : c < 4294967296) (hb : bv ≤ 1) :
    x + 4294967296 * ((c + bv + 4294967295 - x) / 4294967296) - c - bv + c + bv = x + 4294967296 * (if decide (x < c + bv) = true then 1 else 0) := by
  by_cases h : x < c + bv
  · rw [decide_eq_true h, if_pos rfl]; omega
  · rw [decide_eq_false h, if_neg (by decide)]; omega
theorem flag_low (x cv bv : Nat) (hx : x < 4294967296) (hl : cv < 4294967296) (hb : bv ≤ 1) :
    (IntKind.u64.wrap (IntKind.u64.wrap ((x : Int) - (cv : Int)) - (bv : Int)) / 9223372036854775808 != 0) = decide (x < cv + bv) := by
  rw [IntKind.wrap_u64, IntKind.wrap_u64, Bool.eq_iff_iff, bne_iff_ne, decide_eq_true_iff]
  omega
theorem wrap_low (x : Nat) (low bv : Nat) (_hx : x < 4294967296) (_hl : low < 4294967296) (_hb : bv ≤ 1) :
    IntKind.u64.wrap (IntKind.u64.wrap ((x : Int) - (low : Int)) - (bv : Int)) = ((x : Int) - low - bv) % 18446744073709551616 := by
  rw [IntKind.wrap_u64, IntKind.wrap_u64]; omega

set_option maxRecDepth 100000 in
set_option maxHeartbeats 2000000 in
theorem take_any (g off n cr gd cd t : Nat) (R0 DD : List Nat) (w : World) (hR : Rw w g R0) (oR : Ok R0) (hD : Rw w gd DD) (oD : Ok DD) (hne : gd ≠ g) (hl : off + n + 1 ≤ R0.length) (hdl : n ≤ DD.length) (hn : n ≤ 5000) (_hoff : off ≤ 10000) (ht : t < 4294967296) :
    Calls Tryd.prog 127 #[.slice (some ⟨g, off, none⟩) (n + 1) cr, .slice (some ⟨gd, 0, none⟩) n cd, .int .u64 (t : Int)] w fun e w' => ∃ (M : List Nat) (f : Bool), e = .returned (.bool f) ∧ M.length = n + 1 ∧ Ok M ∧ Rw w' g (R0.take off ++ M ++ R0.drop (off + n + 1)) ∧
      val M + t * val (DD.take n) = val ((R0.drop off).take (n + 1)) + P (n + 1) * (if f then 1 else 0) ∧ w.grownBy w' (some g) := by
  obtain ⟨R, hRR⟩ : ∃ R, R = (R0.drop off).take (n + 1) := ⟨_, rfl⟩
  have hRl : R.length = n + 1 := by rw [hRR]; exact len_sub _ _ _ (by omega)
  have hRd : ∀ k, k < n + 1 → dg R k = dg R0 (off + k) := fun k hk => by rw [hRR]; exact dg_sub _ _ _ _ hk
  have HRR := hid hRR
  have HRl := hid hRl
  have HRd := hid hRd
  clear hRR hRl hRd
  go_enter Tryd.func127, Tryd.ntmps127
  go_wp2
  go_loopw [7, 8, 16] (fun c b i wr => ∃ (k cv bv : Nat) (M : List Nat), k ≤ n ∧ i = .int .i64 (k : Int) ∧ c = .int .u64 (cv : Int) ∧ b = .int .u64 (bv : Int) ∧ cv < 4294967296 ∧ bv ≤ 1 ∧ Hid (M.length = k) ∧ Ok M ∧
      Hid (val M + t * val (DD.take k) = val (R.take k) + P k * (cv + bv)) ∧ Rw wr g ((R0.take off ++ M) ++ R0.drop (off + k)) ∧ w.grownBy wr (some g)) (fun _ _ i _ => n - (intOf i).toNat)
  case atStart => exact ⟨0, 0, 0, [], by omega, rfl, rfl, rfl, by omega, by omega, hid rfl, Ok.nil, hid (by simp [val]), by rw [List.append_nil, Nat.add_zero, List.take_append_drop]; exact hR, World.grownBy.refl _ _⟩
  case round =>
    obtain ⟨k, cv, bv, M, hk, rfl, rfl, rfl, hcv, hbv, hM, hok, hval, hRw, hgr⟩ := hrel
    have hN : (R0.take off ++ M).length = off + k := by rw [List.length_append, List.length_take, hM.out]; omega
    have hlen : off + k < ((R0.take off ++ M) ++ R0.drop (off + k)).length := by rw [len_mid _ R0 _ hN (by omega)]; omega
    have hcur := hRw.cell (off + k) hlen
    rw [dg_mid _ R0 _ hN] at hcur
    have hfr := hRw.free (off + k)
    have hx := oR.dg (off + k)
    have HN := hid hN
    clear hlen hN
    by_cases hlt : k < n
    · have hy := oD.dg k
      have hcD := (hD.grown hgr hne).cell k (by omega)
      have hp : t * dg DD k ≤ 4294967295 * 4294967295 := Nat.mul_le_mul (by omega) (by omega)
      have hpi : (t : Int) * (dg DD k : Int) ≤ 18446744065119617025 := by have := Int.ofNat_le.2 hp; simpa using this
      have hpn : 0 ≤ (t : Int) * (dg DD k : Int) := Int.mul_nonneg (by omega) (by omega)
      have HP := hid hp
      clear hp
      go_wp2
      obtain ⟨V, hV⟩ : ∃ V, V = cv + t * dg DD k := ⟨_, rfl⟩
      have hcast : (cv : Int) + (t : Int) * (dg DD k : Int) = (V : Int) := by rw [hV]; simp [Int.natCast_mul]
      have hVs : V ≤ 18446744073709551615 := by have := HP.out; omega
      obtain ⟨low, hlow⟩ : ∃ low, low = V % 4294967296 := ⟨_, rfl⟩
      have hlow2 : (V : Int) % 4294967296 = (low : Int) := by omega
      obtain ⟨x, hxx⟩ : ∃ x, x = dg R0 (off + k) := ⟨_, rfl⟩
      have hz : IntKind.u64.wrap (IntKind.u64.wrap ((dg R0 (off + k) : Int) - ((cv : Int) + (t : Int) * (dg DD k : Int)) % 4294967296) - (bv : Int)) = ((x : Int) - low - bv) % 18446744073709551616 := by
        rw [hcast, hlow2, ← hxx]; exact wrap_low _ _ _ (by omega) (by omega) hbv
      rw [← hxx] at hx
      go_roundw
      case rel =>
        refine ⟨k + 1, V / 4294967296, (low + bv + 4294967295 - x) / 4294967296, M ++ [x + 4294967296 * ((low + bv + 4294967295 - x) / 4294967296) - low - bv], by omega, by go_num, congrArg (Value.int .u64) (by rw [hcast]; omega), congrArg (Value.int .u64) (by rw [hz]; omega), by omega, by omega, hid (by rw [List.length_append, hM.out]; rfl), hok.snoc (by omega), hid ?_, ?_, grown_set hgr _ _⟩
        · rw [val_snoc, hM.out, P_succ, val_take_dg DD k (by omega), val_take_dg R k (by rw [HRl.out]; omega), HRd.out k (by omega), ← hxx]
          exact take_step (low := low) hval.out (by rw [← hV]; omega) (by omega)
        · have := hRw.set' (off + k) (x + 4294967296 * ((low + bv + 4294967295 - x) / 4294967296) - low - bv) (z := IntKind.u64.wrap (IntKind.u64.wrap ((dg R0 (off + k) : Int) - ((cv : Int) + (t : Int) * (dg DD k : Int)) % 4294967296) - (bv : Int)) % 4294967296) (by rw [hz]; omega)
          rw [set_mid _ R0 _ _ HN.out (by omega), List.append_assoc (R0.take off)] at this
          exact this
      case measure => simp [intOf]; omega
    · obtain rfl : k = n := by omega
      have hx2 : dg R k = dg R0 (off + k) := HRd.out k (by omega)
      obtain ⟨x, hxx⟩ : ∃ x, x = dg R0 (off + k) := ⟨_, rfl⟩
      have HXX := hid hxx
      have HX2 := hid hx2
      rw [← hxx] at hcur hx
      clear hxx hx2
      go_wp2
      have hz : IntKind.u64.wrap (IntKind.u64.wrap ((x : Int) - (cv : Int)) - (bv : Int)) = ((x : Int) - cv - bv) % 18446744073709551616 := wrap_low _ _ _ hx hcv hbv
      obtain ⟨o, ho⟩ : ∃ o, o = x + 4294967296 * ((cv + bv + 4294967295 - x) / 4294967296) - cv - bv := ⟨_, rfl⟩
      rw [flag_low x cv bv hx hcv hbv]
      go_ret
      refine ⟨M ++ [o], decide (x < cv + bv), rfl, by rw [List.length_append, hM.out]; rfl, hok.snoc (by omega), ?_, ?_, grown_set hgr _ _⟩
      · have := hRw.set' (off + k) o (z := IntKind.u64.wrap (IntKind.u64.wrap ((x : Int) - (cv : Int)) - (bv : Int)) % 4294967296) (by rw [hz]; omega)
        rw [set_mid _ R0 _ _ HN.out (by omega), List.append_assoc (R0.take off)] at this
        exact this
      · have e := val_take_dg R k (by rw [HRl.out]; omega)
        rw [List.take_of_length_le (by rw [HRl.out]; exact Nat.le_refl _), HX2.out, ← HXX.out] at e
        rw [← HRR.out, val_snoc, hM.out, e, P_succ]
        refine take_last hval.out ?_
        rw [ho]
        exact flag_o x cv bv hx hcv hbv
end Go.Proofs.YtldafoojkimdeaaDoor

namespace Go.Proofs.YtldafoojkimdeaaDoor
open Go.RowKit Lm

theorem put_step {p c x y o c' s t u : Nat} (h : s + p * c = t + u) (he : c + (x + y) = o + 4294967296 * c') :
    (s + p * o) + p * 4294967296 * c' = (t + p * x) + (u + p * y) := by grind
theorem put_last {p c x o c' s t u : Nat} (h : s + p * c = t + u) (he : x + c = o + 4294967296 * c') :
    (s + p * o) + p * 4294967296 * c' = (t + p * x) + u := by grind

set_option maxRecDepth 100000 in
set_option maxHeartbeats 2000000 in
theorem putBack_any (g off n cr gd cd : Nat) (R0 DD : List Nat) (w : World) (hR : Rw w g R0) (oR : Ok R0) (hD : Rw w gd DD) (oD : Ok DD) (hne : gd ≠ g) (hl : off + n + 1 ≤ R0.length) (hdl : n ≤ DD.length) (hn : n ≤ 5000) (_hoff : off ≤ 10000) :
    Calls Tryd.prog 128 #[.slice (some ⟨g, off, none⟩) (n + 1) cr, .slice (some ⟨gd, 0, none⟩) n cd] w fun e w' => ∃ (M : List Nat) (ov : Nat), e = .returned (.tuple #[]) ∧ M.length = n + 1 ∧ Ok M ∧ Rw w' g (R0.take off ++ M ++ R0.drop (off + n + 1)) ∧
      val M + P (n + 1) * ov = val ((R0.drop off).take (n + 1)) + val (DD.take n) ∧ w.grownBy w' (some g) := by
  obtain ⟨R, hRR⟩ : ∃ R, R = (R0.drop off).take (n + 1) := ⟨_, rfl⟩
  have hRl : R.length = n + 1 := by rw [hRR]; exact len_sub _ _ _ (by omega)
  have hRd : ∀ k, k < n + 1 → dg R k = dg R0 (off + k) := fun k hk => by rw [hRR]; exact dg_sub _ _ _ _ hk
  have HRR := hid hRR
  have HRl := hid hRl
  have HRd := hid hRd
  clear hRR hRl hRd
  go_enter Tryd.func128, Tryd.ntmps128
  go_wp2
  go_loopw [4, 9] (fun c i wr => ∃ (k cv : Nat) (M : List Nat), k ≤ n ∧ i = .int .i64 (k : Int) ∧ c = .int .u64 (cv : Int) ∧ cv ≤ 1 ∧ Hid (M.length = k) ∧ Ok M ∧
      Hid (val M + P k * cv = val (R.take k) + val (DD.take k)) ∧ Rw wr g ((R0.take off ++ M) ++ R0.drop (off + k)) ∧ w.grownBy wr (some g)) (fun _ i _ => n - (intOf i).toNat)
  case atStart => exact ⟨0, 0, [], by omega, rfl, rfl, by omega, hid rfl, Ok.nil, hid (by simp [val]), by rw [List.append_nil, Nat.add_zero, List.take_append_drop]; exact hR, World.grownBy.refl _ _⟩
  case round =>
    obtain ⟨k, cv, M, hk, rfl, rfl, hcv, hM, hok, hval, hRw, hgr⟩ := hrel
    have hN : (R0.take off ++ M).length = off + k := by rw [List.length_append, List.length_take, hM.out]; omega
    have hlen : off + k < ((R0.take off ++ M) ++ R0.drop (off + k)).length := by rw [len_mid _ R0 _ hN (by omega)]; omega
    have hcur := hRw.cell (off + k) hlen
    rw [dg_mid _ R0 _ hN] at hcur
    have hfr := hRw.free (off + k)
    have hx := oR.dg (off + k)
    have HN := hid hN
    have HX2 := hid (HRd.out k (by omega))
    clear hlen hN
    generalize dg R0 (off + k) = x at *
    by_cases hlt : k < n
    · have hy := oD.dg k
      have hcD := (hD.grown hgr hne).cell k (by omega)
      go_wp2
      go_roundw
      case rel =>
        refine ⟨k + 1, (cv + (x + dg DD k)) / 4294967296, M ++ [(cv + (x + dg DD k)) % 4294967296], by omega, by go_num, congrArg (Value.int .u64) (by omega), by omega, hid (by rw [List.length_append, hM.out]; rfl), hok.snoc (by omega), hid ?_, ?_, grown_set hgr _ _⟩
        · rw [val_snoc, hM.out, P_succ, val_take_dg DD k (by omega), val_take_dg R k (by rw [HRl.out]; omega), HX2.out]
          exact put_step hval.out (by omega)
        · have := hRw.set' (off + k) ((cv + (x + dg DD k)) % 4294967296) (z := ((cv : Int) + ((x : Int) + (dg DD k : Int))) % 4294967296) (by omega)
          rw [set_mid _ R0 _ _ HN.out (by omega), List.append_assoc (R0.take off)] at this
          exact this
      case measure => simp [intOf]; omega
    · obtain rfl : k = n := by omega
      go_wp2
      go_end0
      refine ⟨M ++ [(x + cv) % 4294967296], (x + cv) / 4294967296, rfl, by rw [List.length_append, hM.out]; rfl, hok.snoc (by omega), ?_, ?_, grown_set hgr _ _⟩
      · have := hRw.set' (off + k) ((x + cv) % 4294967296) (z := ((x : Int) + (cv : Int)) % 4294967296) (by omega)
        rw [set_mid _ R0 _ _ HN.out (by omega), List.append_assoc (R0.take off)] at this
        exact this
      · have e := val_take_dg R k (by rw [HRl.out]; omega)
        rw [List.take_of_length_le (by rw [HRl.out]; exact Nat.le_refl _), HX2.out] at e
        rw [← HRR.out, val_snoc, hM.out, e, P_succ]
        exact put_last hval.out (by omega)
end Go.Proofs.YtldafoojkimdeaaDoor

namespace Go.Proofs.YtldafoojkimdeaaDoor
open Go.RowKit Lm

theorem Rw.drewN {w : World} {g : Nat} {L : List Nat} (h : Rw w g L) (q : Nat) : Rw (w.drewN q) g L := ⟨h.block⟩
theorem ungrow {w w' : World} {q : Nat} {row : Option Nat} (h : (w.drewN q).grownBy w' row) : w.grownBy w' row := ⟨h.os, h.tape, h.output, h.size, h.block⟩
theorem grown_trans {w a b : World} {g : Nat} (h : w.grownBy a (some g)) (k : a.grownBy b (some g)) : w.grownBy b (some g) :=
  ⟨k.os.trans h.os, k.tape.trans h.tape, k.output.trans h.output, Nat.le_trans h.size k.size, fun i hi hne => (k.block i (Nat.lt_of_lt_of_le hi h.size) hne).trans (h.block i hi hne)⟩

/-- No borrow was left: the guess is the quotient. -/
theorem red_no {X Y t M : Nat} (hY : 0 < Y) (h1 : X / Y ≤ t) (h : M + t * Y = X) : t = X / Y ∧ M = X % Y := by
  have h2 : t ≤ X / Y := (Nat.le_div_iff_mul_le hY).2 (by omega)
  have h3 : t = X / Y := by omega
  refine ⟨h3, ?_⟩
  have := Nat.div_add_mod' X Y
  rw [← h3] at this; omega
/-- A borrow was left: the guess is once too great. -/
theorem red_yes {X Y t M M2 p ov : Nat} (hY : 0 < Y) (hYp : Y < p) (h1 : X / Y ≤ t) (h2 : t ≤ X / Y + 1) (hM : M < p) (hM2 : M2 < p) (h : M + t * Y = X + p) (h3 : M2 + p * ov = M + Y) : t - 1 = X / Y ∧ 1 ≤ t ∧ M2 = X % Y := by
  have e := Nat.div_add_mod' X Y
  have hr := Nat.mod_lt X hY
  have ht : t = X / Y + 1 := by
    rcases Nat.lt_or_ge (X / Y) t with k | k
    · omega
    · have : t = X / Y := by omega
      rw [this] at h; omega
  rw [ht, Nat.add_mul, Nat.one_mul] at h
  have h4 : M2 + p * ov = X % Y + p := by omega
  have ht1 : t - 1 = X / Y := by rw [ht]; rfl
  have ht2 : 1 ≤ t := by rw [ht]; exact Nat.le_add_left _ _
  refine ⟨ht1, ht2, ?_⟩
  clear ht ht1 ht2 h h1 h2 e h3
  generalize X % Y = r at *
  match ov, h4 with
  | 0, h4 => omega
  | 1, h4 => omega
  | k + 2, h4 => rw [Nat.mul_add] at h4; omega

theorem mid_cut (R0 M : List Nat) (off k : Nat) (hM : M.length = k) (hl : off + k ≤ R0.length) : ((R0.take off ++ M ++ R0.drop (off + k)).drop off).take k = M := by
  rw [List.append_assoc, List.drop_append_of_le_length (by rw [List.length_take]; omega), List.drop_eq_nil_of_le (by rw [List.length_take]; omega), List.nil_append, List.take_append_of_le_length (by omega), List.take_of_length_le (by omega)]
theorem mid_take (R0 M : List Nat) (off k : Nat) (hl : off ≤ R0.length) : (R0.take off ++ M ++ R0.drop (off + k)).take off = R0.take off := by
  rw [List.append_assoc, List.take_append_of_le_length (by rw [List.length_take]; omega), List.take_of_length_le (by rw [List.length_take]; omega)]
theorem mid_drop (R0 M : List Nat) (off k : Nat) (hM : M.length = k) (hl : off + k ≤ R0.length) : (R0.take off ++ M ++ R0.drop (off + k)).drop (off + k) = R0.drop (off + k) := by
  rw [List.drop_append_of_le_length (by rw [List.length_append, List.length_take]; omega), List.drop_eq_nil_of_le (by rw [List.length_append, List.length_take]; omega), List.nil_append]
theorem mid_len (R0 M : List Nat) (off k : Nat) (hM : M.length = k) (hl : off + k ≤ R0.length) : (R0.take off ++ M ++ R0.drop (off + k)).length = R0.length := by
  rw [List.length_append, List.length_append, List.length_take, List.length_drop]; omega

set_option maxRecDepth 100000 in
set_option maxHeartbeats 2000000 in
theorem reduce_any (g off m cr gd cd : Nat) (R0 DD : List Nat) (w : World) (hR : Rw w g R0) (oR : Ok R0) (hD : Rw w gd DD) (oD : Ok DD) (hne : gd ≠ g) (hl : off + (m + 2) + 1 ≤ R0.length) (hdl : m + 2 ≤ DD.length) (hn : m ≤ 4000) (hoff : off ≤ 10000)
    (hcr : m + 3 ≤ cr) (hcr2 : cr ≤ 70368744177664) (hcd : m + 2 ≤ cd) (hcd2 : cd ≤ 70368744177664)
    (hh : 2147483648 ≤ dg DD (m + 1)) (hlt : val ((R0.drop off).take (m + 3)) < val (DD.take (m + 2)) * 4294967296) :
    Calls Tryd.prog 116 #[.slice (some ⟨g, off, none⟩) (m + 3) cr, .slice (some ⟨gd, 0, none⟩) (m + 2) cd] w fun e w' => ∃ (M : List Nat), e = .returned (.int .u32 ((val ((R0.drop off).take (m + 3)) / val (DD.take (m + 2)) : Nat) : Int)) ∧ M.length = m + 3 ∧ Ok M ∧ Rw w' g (R0.take off ++ M ++ R0.drop (off + (m + 3))) ∧
      val M = val ((R0.drop off).take (m + 3)) % val (DD.take (m + 2)) ∧ w.grownBy w' (some g) := by
  have hRr := hR.rd oR off (m + 3) cr (by omega) hcr hcr2
  have hDr := hD.rd oD 0 (m + 2) cd (by omega) hcd hcd2
  rw [List.drop_zero] at hDr
  have hh' : 2147483648 ≤ dg (DD.take (m + 2)) (m + 1) := by rw [dg_take _ _ _ (by omega)]; exact hh
  have hDlt := val_lt (oD.take (m + 2))
  rw [List.length_take, Nat.min_eq_left hdl] at hDlt
  have hPlt : P (m + 2) < P (m + 3) := by rw [P_succ (m + 2)]; have := P_pos (m + 2); omega
  have hD0 : 0 < val (DD.take (m + 2)) := by
    have := val_take_dg (DD.take (m + 2)) (m + 1) (by rw [List.length_take]; omega)
    rw [List.take_of_length_le (by rw [List.length_take]; omega)] at this
    have h2 : 0 < P (m + 1) * dg (DD.take (m + 2)) (m + 1) := Nat.mul_pos (P_pos _) (by omega)
    omega
  have hqs : val ((R0.drop off).take (m + 3)) / val (DD.take (m + 2)) < 4294967296 := by
    rw [Nat.div_lt_iff_lt_mul hD0, Nat.mul_comm]; exact hlt
  have HDP := hid (show val (DD.take (m + 2)) < P (m + 2 + 1) by exact Nat.lt_trans hDlt hPlt)
  have HQS := hid hqs
  have HD0 := hid hD0
  have HLT := hid hlt
  have HH := hid hh'
  clear hDlt hPlt hD0 hqs hlt hh hh'
  go_enter Tryd.func116, Tryd.ntmps116
  go_wp2_with (first
    | (go_at_call 126; refine (guess_any _ _ _ _ _ (DD.take (m + 2)) m _ hRr hDr (by omega) HH.out HLT.out).mono ?_; rintro e w1 ⟨t, rfl, ht, hq1, hq2, q, rfl⟩)
    | (go_at_call 127; refine (take_any g off (m + 2) _ gd _ t R0 DD _ (hR.drewN q) oR (hD.drewN q) oD hne (by omega) (by omega) (by omega) hoff ht).mono ?_; rintro e w2 ⟨M, f, rfl, hM, hok, hR2, hval, hg2⟩; have HM := hid hM; have HV := hid hval; clear hM hval)
    | (go_at_call 128; refine (putBack_any g off (m + 2) _ gd _ _ DD _ hR2 ?_ (hD.grown (ungrow hg2) hne) oD hne ?_ (by omega) (by omega) hoff).mono ?_))
  · exact ((oR.take _).append hok).append (oR.drop _)
  · rw [show off + (m + 2) + 1 = off + (m + 3) from rfl, mid_len R0 M off (m + 3) HM.out (by omega)]; exact hl
  · rintro e w3 ⟨M2, ov, rfl, hM2, hok2, hR3, hval2, hg3⟩
    have e1 : off + (m + 2) + 1 = off + (m + 3) := rfl
    have e2 : m + 2 + 1 = m + 3 := rfl
    rw [e1, e2] at hval2
    rw [e1] at hR3
    rw [mid_cut R0 M off (m + 3) HM.out (by omega)] at hval2
    rw [mid_take R0 M off (m + 3) (by omega), mid_drop R0 M off (m + 3) HM.out (by omega)] at hR3
    have hv := HV.out
    have hf : f = true := by assumption
    rw [hf, if_pos rfl, Nat.mul_one] at hv
    have hMl := val_lt hok
    rw [HM.out] at hMl
    have hM2l := val_lt hok2
    rw [hM2] at hM2l
    have hr := red_yes HD0.out HDP.out hq1 hq2 hMl hM2l hv hval2
    have HRed := hid hr
    have HM2 := hid hM2
    clear hr hv hval2 hMl hM2l hM2 hq1 hq2
    have ht1 := HRed.out.2.1
    go_wp2
    go_ret
    refine ⟨M2, ?_, HM2.out, hok2, hR3, HRed.out.2.2, grown_trans (ungrow hg2) hg3⟩
    rw [← HRed.out.1]
    exact congrArg (fun z => Ending.returned (.int .u32 z)) (by omega)
  · have hv := HV.out
    have hf : f = false := by assumption
    rw [hf, if_neg (by decide), Nat.mul_zero, Nat.add_zero] at hv
    have hr := red_no HD0.out hq1 hv
    go_ret
    refine ⟨M, ?_, HM.out, hok, hR2, hr.2, ungrow hg2⟩
    rw [← hr.1]
    rfl
end Go.Proofs.YtldafoojkimdeaaDoor

namespace Go.Proofs.YtldafoojkimdeaaDoor
open Go.RowKit Lm

theorem two_pow_le {p : Nat} (h : p < 32) : 2 ^ p ≤ 2147483648 := by
  have : 2 ^ p ≤ 2 ^ 31 := Nat.pow_le_pow_right (by decide) (by omega)
  simpa using this
theorem shl_bound (x c p : Nat) (hx : x < 4294967296) (hc : c < 2 ^ p) : x * 2 ^ p + c < 4294967296 * 2 ^ p := by
  have := Nat.mul_le_mul_right (2 ^ p) (show x + 1 ≤ 4294967296 by omega)
  rw [Nat.add_mul, Nat.one_mul] at this; omega
theorem or_shl (x c p : Nat) (hx : x < 4294967296) (hc : c < 2 ^ p) (hp : p < 32) :
    bits .or .u64 (c : Int) (IntKind.u64.wrap ((x : Int) * 2 ^ p)) = ((x * 2 ^ p + c : Nat) : Int) := by
  have h1 := shl_bound x c p hx hc
  have h2 := two_pow_le hp
  have e : IntKind.u64.wrap ((x : Int) * 2 ^ p) = ((x * 2 ^ p : Nat) : Int) := by
    rw [show (x : Int) * 2 ^ p = ((x * 2 ^ p : Nat) : Int) by simp [Int.natCast_mul, Int.natCast_pow]]
    rw [IntKind.wrap_u64]; omega
  rw [e, u64_or_nat c (x * 2 ^ p) (by omega) (by omega), Nat.or_comm, nat_join p (x * 2 ^ p) c (Nat.mul_mod_left _ _) hc]
theorem shl_step {P q c x o c' s t e r : Nat} (h : s + P * c = q * (t * e)) (he : x * e + c = o + 4294967296 * c') (hP : P = q * r) :
    (s + P * o) + P * 4294967296 * c' = q * ((t + r * x) * e) := by subst hP; grind

set_option maxRecDepth 100000 in
set_option maxHeartbeats 2000000 in
theorem shiftUp_any (aa : Option Addr) (la ca : Nat) (A : List Nat) (n : Nat) (w : World) (hA : Rd w aa la ca A) (hsa : la ≤ 5000) (hn : n ≤ 5000) :
    Calls Tryd.prog 97 #[.slice aa la ca, .int .i64 (n : Int)] w fun e w' => ∃ g L, e = .returned (.slice (some ⟨g, 0, none⟩) L.length L.length) ∧ w.heap.size ≤ g ∧ Rw w' g L ∧ L.length = la + n / 32 + 1 ∧ Ok L ∧ val L = val A * 2 ^ n ∧ Below w.heap.size w w' := by
  obtain ⟨i0, hi, hz0, hz1, hz2⟩ := info_parts Tryd.info43
  have hla := hid hA.size
  go_enter Tryd.func97, Tryd.ntmps97
  go_wp2_with (at_make; refine wpList_make_full _ rfl _ _ 22 rfl w.heap.size 43 i0 (.int .u32 0) 1 Tryd.underlying22 hi hz0 hz1 .i64 .i64 _ _ (la + n / 32 + 1) rfl rfl (by omega) (by omega) ?c1 ?c2 ?c3 ?_)
  case c1 => rw [hz2]; omega
  case c2 => unfold maxLen; omega
  case c3 => exact Nat.le_refl _
  intro w1 hown hgrow
  have hrow : Rw w1 w.heap.size (List.replicate (la + n / 32 + 1) 0) := Rw.of_own hown (made_zeros _ _ (by omega))
  have hbel : Below w.heap.size w w1 := (Below.refl _ _).grown hgrow (Nat.le_refl _) (by intro k hk; simp at hk)
  clear hown hgrow hi hz0 hz1 hz2
  go_wp2
  go_loopw [8, 24] (fun c i wr => ∃ (k cv : Nat) (M : List Nat), k ≤ la ∧ i = .int .i64 (k : Int) ∧ c = .int .u64 (cv : Int) ∧ cv < 2 ^ (n % 32) ∧ Hid (M.length = k + n / 32) ∧ Ok M ∧ Hid (val M + P (k + n / 32) * cv = P (n / 32) * (val (A.take k) * 2 ^ (n % 32))) ∧
      Rw wr w.heap.size (M ++ List.replicate (la + 1 - k) 0) ∧ Below w.heap.size w wr) (fun _ i _ => la - (intOf i).toNat)
  case atStart => exact ⟨0, 0, List.replicate (n / 32) 0, by omega, rfl, rfl, Nat.pow_pos (by decide), hid (by simp), Ok.zeros _, hid (by simp [val_zeros, val]), by rw [List.replicate_append_replicate, show n / 32 + (la + 1 - 0) = la + n / 32 + 1 by omega]; exact hrow, hbel⟩
  case round =>
    obtain ⟨k, cv, M, hk, rfl, rfl, hcv, hM, hok, hval, hR, hB1⟩ := hrel
    clear hrow hbel
    by_cases hlt : k < la
    · obtain ⟨b, off, rfl, hc⟩ := (hA.keep hB1).cells (by omega)
      have hcell := hc k hlt
      have hx := hA.ok.dg k
      have hp := Nat.mod_lt n (show 0 < 32 by decide)
      have hor := or_shl (dg A k) cv (n % 32) hx hcv hp
      have hbd := shl_bound (dg A k) cv (n % 32) hx hcv
      have hpw := two_pow_le hp
      obtain ⟨V, hV⟩ : ∃ V, V = dg A k * 2 ^ (n % 32) + cv := ⟨_, rfl⟩
      rw [← hV] at hor hbd
      have HV := hid hV
      have HBD := hid hbd
      have hVs : V ≤ 18446744073709551615 := by omega
      have hfr := hR.free (k + n / 32)
      have hsz : k + n / 32 < (M ++ List.replicate (la + 1 - k) 0).length := by rw [List.length_append, List.length_replicate, hM.out]; omega
      have hcur := hR.cell (k + n / 32) hsz
      clear hc hsz hV hbd hpw hp
      go_wp2
      go_roundw
      case rel =>
        refine ⟨k + 1, V / 4294967296, M ++ [V % 4294967296], by omega, by go_num, congrArg (Value.int .u64) (by omega), ?_, hid (by rw [List.length_append, hM.out]; simp; omega), hok.snoc (by omega), hid ?_, ?_, hB1.setCell (Nat.le_refl _) _⟩
        · exact (Nat.div_lt_iff_lt_mul (by decide)).2 (by rw [Nat.mul_comm]; exact HBD.out)
        · rw [val_snoc, hM.out, show k + 1 + n / 32 = k + n / 32 + 1 by omega, P_succ, val_take_dg A k (by rw [hla.out]; omega)]
          exact shl_step hval.out (by rw [← HV.out]; omega) (by rw [P_add, Nat.mul_comm])
        · have := hR.set' (k + n / 32) (V % 4294967296) (z := (V : Int) % 4294967296) (by omega)
          have e := set_snoc_zeros M (k + n / 32 + (la + 1 - k)) (V % 4294967296) (by rw [hM.out]; omega)
          rw [hM.out, show k + n / 32 + (la + 1 - k) - (k + n / 32) = la + 1 - k by omega, show k + n / 32 + (la + 1 - k) - (k + n / 32 + 1) = la + 1 - (k + 1) by omega] at e
          rwa [e] at this
      case measure => simp [intOf]; omega
    · obtain rfl : k = la := by omega
      have hp := Nat.mod_lt n (show 0 < 32 by decide)
      have hpw := two_pow_le hp
      have hcl : cv < 4294967296 := by omega
      have hfr := hR.free (k + n / 32)
      have hsz : k + n / 32 < (M ++ List.replicate (k + 1 - k) 0).length := by rw [List.length_append, List.length_replicate, hM.out]; omega
      have hcur := hR.cell (k + n / 32) hsz
      clear hsz hp hpw hcv
      go_wp2
      go_ret
      refine ⟨w.heap.size, M ++ [cv], ?_, Nat.le_refl _, ?_, by rw [List.length_append, hM.out]; rfl, hok.snoc hcl, ?_, hB1.setCell (Nat.le_refl _) _⟩
      · rw [List.length_append, hM.out]; rfl
      · have := hR.set' (k + n / 32) cv (z := (cv : Int)) rfl
        have e := set_snoc_zeros M (k + n / 32 + 1) cv (by rw [hM.out]; omega)
        rw [hM.out] at e
        rw [show k + 1 - k = k + n / 32 + 1 - (k + n / 32) by omega, e] at this
        simpa using this
      · have hv := hval.out
        rw [val_take_ge A k (by rw [hla.out]; omega)] at hv
        rw [val_snoc, hM.out, hv, P_two, ← Nat.mul_assoc, Nat.mul_comm (2 ^ (32 * (n / 32))), Nat.mul_assoc, ← Nat.pow_add]
        congr 2; omega
end Go.Proofs.YtldafoojkimdeaaDoor

namespace Go.Proofs.YtldafoojkimdeaaDoor
open Go.RowKit Lm

theorem vec_nat (a : Nat) (ha : a < 4294967296) : (BitVec.ofInt 32 (a : Int)).toNat = a := by
  rw [BitVec.ofInt_natCast, BitVec.toNat_ofNat]; exact Nat.mod_eq_of_lt (by omega)
theorem wrap32 (n : Nat) (h : n < 4294967296) : IntKind.u32.wrap (n : Int) = (n : Int) := by
  simp [IntKind.wrap, IntKind.bits, IntKind.signed]; omega
theorem and32 (a b : Nat) (ha : a < 4294967296) (hb : b < 4294967296) : bits .and .u32 (a : Int) (b : Int) = ((a &&& b : Nat) : Int) := by
  show IntKind.u32.wrap ((BitVec.ofInt 32 (a : Int) &&& BitVec.ofInt 32 (b : Int)).toNat : Int) = _
  rw [BitVec.toNat_and, vec_nat a ha, vec_nat b hb]
  exact wrap32 _ (Nat.and_lt_two_pow (n := 32) _ (by omega))
theorem or32 (a b : Nat) (ha : a < 4294967296) (hb : b < 4294967296) : bits .or .u32 (a : Int) (b : Int) = ((a ||| b : Nat) : Int) := by
  show IntKind.u32.wrap ((BitVec.ofInt 32 (a : Int) ||| BitVec.ofInt 32 (b : Int)).toNat : Int) = _
  rw [BitVec.toNat_or, vec_nat a ha, vec_nat b hb]
  exact wrap32 _ (Nat.or_lt_two_pow (n := 32) (by omega) (by omega))
theorem xor32 (a b : Nat) (ha : a < 4294967296) (hb : b < 4294967296) : bits .xor .u32 (a : Int) (b : Int) = ((a ^^^ b : Nat) : Int) := by
  show IntKind.u32.wrap ((BitVec.ofInt 32 (a : Int) ^^^ BitVec.ofInt 32 (b : Int)).toNat : Int) = _
  rw [BitVec.toNat_xor, vec_nat a ha, vec_nat b hb]
  exact wrap32 _ (Nat.xor_lt_two_pow (n := 32) (by omega) (by omega))
theorem not32 (x : Nat) (hx : x < 4294967296) : bits .xor .u32 (if IntKind.u32.signed = true then -1 else IntKind.u32.max) (x : Int) = ((4294967295 - x : Nat) : Int) := by
  show IntKind.u32.wrap ((BitVec.allOnes 32 ^^^ BitVec.ofInt 32 (x : Int)).toNat : Int) = _
  rw [BitVec.allOnes_xor, BitVec.toNat_not, vec_nat x hx]
  exact wrap32 _ (by omega)

theorem neg_step {p c x o c' s u : Nat} (h : s + p * c + u = p) (he : c + (4294967295 - x) = o + 4294967296 * c') (hx : x < 4294967296) :
    (s + p * o) + p * 4294967296 * c' + (u + p * x) = p * 4294967296 := by
  obtain ⟨y, hy⟩ : ∃ y, y = 4294967295 - x := ⟨_, rfl⟩
  have h1 : c + y = o + 4294967296 * c' := by omega
  have h2 : x + y + 1 = 4294967296 := by omega
  clear he hy hx
  grind
theorem wrap_not (c x : Nat) (hc : c ≤ 1) (hx : x < 4294967296) : IntKind.u64.wrap ((c : Int) + IntKind.u64.wrap ((4294967295 - x : Nat) : Int)) = ((c + (4294967295 - x) : Nat) : Int) := by
  rw [IntKind.wrap_u64, IntKind.wrap_u64]; omega

set_option maxRecDepth 100000 in
set_option maxHeartbeats 2000000 in
theorem negate_any (g n cr : Nat) (X : List Nat) (w : World) (hX : Rw w g X) (oX : Ok X) (hl : X.length = n) (hn : n ≤ 5000) :
    Calls Tryd.prog 113 #[.slice (some ⟨g, 0, none⟩) n cr] w fun e w' => ∃ (M : List Nat) (c : Nat), e = .returned (.tuple #[]) ∧ M.length = n ∧ Ok M ∧ Rw w' g M ∧ val M + P n * c + val X = P n ∧ w.grownBy w' (some g) := by
  have HL := hid hl
  clear hl
  go_enter Tryd.func113, Tryd.ntmps113
  go_wp2
  go_loopw [2, 7] (fun c i wr => ∃ (k cv : Nat) (M : List Nat), k ≤ n ∧ i = .int .i64 (k : Int) ∧ c = .int .u64 (cv : Int) ∧ cv ≤ 1 ∧ Hid (M.length = k) ∧ Ok M ∧
      Hid (val M + P k * cv + val (X.take k) = P k) ∧ Rw wr g (M ++ X.drop k) ∧ w.grownBy wr (some g)) (fun _ i _ => n - (intOf i).toNat)
  case atStart => exact ⟨0, 1, [], by omega, rfl, rfl, by omega, hid rfl, Ok.nil, hid (by simp [val, P]), by simpa using hX, World.grownBy.refl _ _⟩
  case round =>
    obtain ⟨k, cv, M, hk, rfl, rfl, hcv, hM, hok, hval, hRw, hgr⟩ := hrel
    by_cases hlt : k < n
    · have hlen : k < (M ++ X.drop k).length := by rw [len_mid _ X _ hM.out (by rw [HL.out]; omega), HL.out]; omega
      have hcur := hRw.cell k hlen
      rw [dg_mid _ X _ hM.out] at hcur
      have hfr := hRw.free k
      have hx := oX.dg k
      have HX := hid (val_take_dg X k (by rw [HL.out]; omega))
      clear hlen
      obtain ⟨x, hxx⟩ : ∃ x, x = dg X k := ⟨_, rfl⟩
      have HXX := hid hxx
      rw [← hxx] at hcur hx
      clear hxx
      go_wp2
      obtain ⟨V, hV⟩ : ∃ V, V = cv + (4294967295 - x) := ⟨_, rfl⟩
      have hz : IntKind.u64.wrap ((cv : Int) + IntKind.u64.wrap (bits BinOp.xor IntKind.u32 (if IntKind.u32.signed = true then -1 else IntKind.u32.max) (x : Int))) = (V : Int) := by
        rw [not32 x hx, wrap_not cv x hcv hx, hV]
      go_roundw
      case rel =>
        refine ⟨k + 1, V / 4294967296, M ++ [V % 4294967296], by omega, by go_num, congrArg (Value.int .u64) (by rw [hz]; omega), by omega, hid (by rw [List.length_append, hM.out]; rfl), hok.snoc (Nat.mod_lt _ (by decide)), hid ?_, ?_, grown_set hgr _ _⟩
        · rw [val_snoc, hM.out, P_succ, HX.out, ← HXX.out]
          exact neg_step hval.out (by rw [← hV]; omega) hx
        · have := hRw.set' k (V % 4294967296) (z := IntKind.u64.wrap ((cv : Int) + IntKind.u64.wrap (bits BinOp.xor IntKind.u32 (if IntKind.u32.signed = true then -1 else IntKind.u32.max) (x : Int))) % 4294967296) (by rw [hz]; omega)
          rw [set_mid _ X _ _ hM.out (by rw [HL.out]; omega)] at this
          exact this
      case measure => simp [intOf]; omega
    · obtain rfl : k = n := by omega
      go_wp2
      go_end0
      refine ⟨M, cv, rfl, hM.out, hok, ?_, ?_, hgr⟩
      · rw [List.drop_of_length_le (by rw [HL.out]; exact Nat.le_refl _), List.append_nil] at hRw
        exact hRw
      · have := hval.out
        rw [List.take_of_length_le (by rw [HL.out]; exact Nat.le_refl _)] at this
        exact this
end Go.Proofs.YtldafoojkimdeaaDoor

namespace Go.Proofs.YtldafoojkimdeaaDoor
open Go.RowKit Lm

theorem tl_len_zero (L : List Nat) : ¬ 0 < (tl L).length ↔ val L = 0 := by
  constructor
  · intro h
    have e : tl L = [] := List.eq_nil_of_length_eq_zero (by omega)
    rw [← tl_val L, e]; rfl
  · intro h
    have := top_zero (tl_top L) (by rw [tl_val]; exact h)
    rw [this]; simp

theorem mask32 (x p : Nat) (hx : x < 4294967296) (hp : p < 32) : bits .and .u32 (x : Int) ((2 ^ p - 1) % 4294967296) = ((x % 2 ^ p : Nat) : Int) := by
  have h1 : 2 ^ p ≤ 2147483648 := two_pow_le hp
  have h0 : 0 < 2 ^ p := Nat.two_pow_pos p
  have e : ((2 : Int) ^ p - 1) % 4294967296 = ((2 ^ p - 1 : Nat) : Int) := by
    have e2 : ((2 : Int) ^ p) = ((2 ^ p : Nat) : Int) := by simp
    rw [e2]; omega
  rw [e, and32 _ _ hx (by omega), Nat.and_two_pow_sub_one_eq_mod]

theorem high_join (H x : Nat) (hx : x < 4294967296) : bits .or .u64 (IntKind.u64.wrap ((H : Int) * 4294967296)) (x : Int) = ((H % 4294967296 * 4294967296 + x : Nat) : Int) := by
  rw [show IntKind.u64.wrap ((H : Int) * 4294967296) = ((H % 4294967296 : Nat) : Int) * 4294967296 by rw [IntKind.wrap_u64]; omega]
  exact or_join _ _ (Nat.mod_lt _ (by decide)) hx

/-- What 'shiftDown' answers. -/
def Downs (w' : World) (A : List Nat) (n la : Nat) (so : Option Addr) (sl sc : Nat) (b : Bool) : Prop :=
  ∃ S, Rd w' so sl sc S ∧ val S = val A / 2 ^ n ∧ sl ≤ la ∧ (b = true ↔ val A % 2 ^ n ≠ 0)

set_option maxRecDepth 100000 in
set_option maxHeartbeats 2000000 in
theorem shiftDown_all (aa : Option Addr) (la ca : Nat) (A : List Nat) (n : Nat) (w : World) (hA : Rd w aa la ca A) (hsa : la ≤ 5000) (hn : n ≤ 9223372036854775807) (hw : la ≤ n / 32) :
    Calls Tryd.prog 110 #[.slice aa la ca, .int .i64 (n : Int)] w fun e w' => ∃ so sl sc b, e = .returned (.tuple #[.slice so sl sc, .bool b]) ∧ Downs w' A n la so sl sc b ∧ Below w.heap.size w w' := by
  have hlt : val A < 2 ^ n := by
    have h1 := val_lt hA.ok
    rw [P_two, hA.size] at h1
    exact Nat.lt_of_lt_of_le h1 (Nat.pow_le_pow_right (by decide) (by omega))
  have HLT := hid hlt
  clear hlt
  go_enter Tryd.func110, Tryd.ntmps110
  go_wp2_with (go_at_call 71; refine (trim_any _ _ _ A _ hA).mono ?_; rintro e w5 ⟨rfl, rfl⟩)
  go_ret2
  refine ⟨none, 0, 0, _, rfl, ⟨[], ⟨rfl, Ok.nil, Nat.le_refl _, by omega, fun h => by omega⟩, ?_, by omega, ?_⟩, Below.refl _ _⟩
  · rw [Nat.div_eq_of_lt HLT.out]; rfl
  · rw [Nat.mod_eq_of_lt HLT.out, ne_eq, ← tl_len_zero, Decidable.not_not]
    simp only [decide_eq_true_eq]

set_option maxRecDepth 100000 in
set_option maxHeartbeats 2000000 in
theorem shiftDown_some (aa : Option Addr) (la ca : Nat) (A : List Nat) (n : Nat) (w : World) (hA : Rd w aa la ca A) (hsa : la ≤ 5000) (hn : n ≤ 9223372036854775807) (hw : n / 32 < la) :
    Calls Tryd.prog 110 #[.slice aa la ca, .int .i64 (n : Int)] w fun e w' => ∃ so sl sc b, e = .returned (.tuple #[.slice so sl sc, .bool b]) ∧ Downs w' A n la so sl sc b ∧ Below w.heap.size w w' := by
  obtain ⟨i0, hi, hz0, hz1, hz2⟩ := info_parts Tryd.info43
  have hla := hid hA.size
  have hcap := hA.room
  have hT := hA.take (n := n / 32) (by omega)
  obtain ⟨ba, off, rfl, hc⟩ := hA.cells (by omega)
  have hcell := hc (n / 32) hw
  have hx := hA.ok.dg (n / 32)
  obtain ⟨x, hxx⟩ : ∃ x, x = dg A (n / 32) := ⟨_, rfl⟩
  rw [← hxx] at hcell hx
  have HXX := hid hxx
  clear hxx hc
  have hp := Nat.mod_lt n (show 0 < 32 by decide)
  obtain ⟨y, hy⟩ : ∃ y, y = x % 2 ^ (n % 32) := ⟨_, rfl⟩
  have hmask := mask32 x (n % 32) hx hp
  rw [← hy] at hmask
  have HY := hid hy
  clear hy
  have hlost := lost_mod A hA.ok (n / 32) (n % 32) (by rw [hla.out]; exact hw) (by omega)
  rw [show 32 * (n / 32) + n % 32 = n by omega, ← HXX.out, ← HY.out] at hlost
  have hquo := shift_split A hA.ok (n / 32) (n % 32) (by rw [hla.out]; omega)
  rw [show 32 * (n / 32) + n % 32 = n by omega] at hquo
  have HLO := hid hlost
  have HQU := hid hquo
  clear hlost hquo
  have hbt : ((decide (0 < (tl (A.take (n / 32))).length) || ((y : Int) != 0)) = true) ↔ val A % 2 ^ n ≠ 0 := by
    rw [HLO.out]
    have h1 := tl_len_zero (A.take (n / 32))
    have h2 := P_pos (n / 32)
    simp only [Bool.or_eq_true, decide_eq_true_eq, bne_iff_ne, ne_eq]
    by_cases hz : val (A.take (n / 32)) = 0
    · rw [hz, Nat.zero_add, Nat.mul_eq_zero]
      have := h1.2 hz
      omega
    · have h3 : 0 < (tl (A.take (n / 32))).length := by
        by_cases h4 : 0 < (tl (A.take (n / 32))).length
        · exact h4
        · exact absurd (h1.1 h4) hz
      simp [h3]; omega
  have hm : la - n / 32 + n / 32 = la := by omega
  by_cases ht : 0 < (tl (A.take (n / 32))).length
  · have HBT : Hid (true = true ↔ val A % 2 ^ n ≠ 0) := by rw [decide_eq_true ht, Bool.true_or] at hbt; exact hid hbt
    clear hbt
    go_enter Tryd.func110, Tryd.ntmps110
    go_wp2_with (first
      | (go_at_call 71; refine (trim_any _ _ _ (A.take (n / 32)) _ hT).mono ?_; rintro e w5 ⟨rfl, rfl⟩)
      | (at_make; refine wpList_make_full _ rfl _ _ 22 rfl w.heap.size 43 i0 (.int .u32 0) 1 Tryd.underlying22 hi hz0 hz1 .i64 .i64 _ _ (la - n / 32) rfl rfl (by omega) (by omega) ?c1 ?c2 ?c3 ?_))
    case c1 => rw [hz2]; omega
    case c2 => unfold maxLen; omega
    case c3 => simp
    intro w1 hown hgrow
    have hrow : Rw w1 w.heap.size (List.replicate (la - n / 32) 0) := Rw.of_own hown (made_zeros _ _ (by omega))
    have hbel : Below w.heap.size w w1 := (Below.refl _ _).grown hgrow (Nat.le_refl _) (by intro k hk; simp at hk)
    clear hown hgrow hi hz0 hz1 hz2 hmask ht
    go_wp2
    go_loopw [10, 11] (fun c i wr => ∃ (k H : Nat) (Q : List Nat), k ≤ la - n / 32 ∧ i = .int .i64 ((k : Int) - 1) ∧ c = .int .u64 (H : Int) ∧ H < 18446744073709551616 ∧ Hid (H % 4294967296 = dg A (n / 32 + k)) ∧ Hid (Q.length = la - n / 32 - k) ∧ Ok Q ∧
        Hid (val Q = val (A.drop (n / 32 + k)) / 2 ^ (n % 32)) ∧ Rw wr w.heap.size (List.replicate k 0 ++ Q) ∧ Below w.heap.size w wr) (fun _ i _ => (intOf i + 1).toNat)
    case atStart => exact ⟨la - n / 32, 0, [], by omega, by go_num, rfl, by decide, hid (by rw [Nat.add_comm, hm]; unfold dg; rw [getD_out _ _ (by rw [hla.out]; exact Nat.le_refl _)]), hid (by simp), Ok.nil, hid (by rw [Nat.add_comm, hm, List.drop_eq_nil_of_le (by rw [hla.out]; exact Nat.le_refl _)]; simp [val]), by simpa using hrow, hbel⟩
    case round =>
      obtain ⟨k, H, Q, hk, rfl, rfl, hH, hHd, hQ, hok, hval, hR, hB1⟩ := hrel
      clear hrow hbel hcell
      cases k with
      | zero =>
        have hv := hval.out
        rw [Nat.add_zero] at hv
        have HV := hid hv
        clear hv
        go_wp2
        go_ret2
        refine ⟨some ⟨w.heap.size, 0, none⟩, la - n / 32, la - n / 32, _, rfl, ⟨Q, ?_, ?_, by omega, (by first | exact HBT.out | simpa using HBT.out)⟩, hB1⟩
        · have hRd := (show Rw wr w.heap.size Q by simpa using hR).whole hok (la - n / 32) (by rw [hQ.out]; omega) (by omega)
          have hql : Q.length = la - n / 32 := by rw [hQ.out]; omega
          rwa [hql] at hRd
        · rw [HV.out, HQU.out]
      | succ j =>
        obtain ⟨ba', off', hae, hc⟩ := (hA.keep hB1).cells (by omega)
        simp only [Option.some.injEq, Addr.mk.injEq, and_true] at hae
        obtain ⟨hae1, hae2⟩ := hae
        subst hae1 hae2
        have hcell := hc (n / 32 + j) (by omega)
        have hxj := hA.ok.dg (n / 32 + j)
        have hfr := hR.free j
        have hsz : j < (List.replicate (j + 1) 0 ++ Q).length := by rw [List.length_append, List.length_replicate]; omega
        have hcur := hR.cell j hsz
        clear hc hsz
        have hj := high_join H (dg A (n / 32 + j)) hxj
        obtain ⟨V, hV⟩ : ∃ V, V = H % 4294967296 * 4294967296 + dg A (n / 32 + j) := ⟨_, rfl⟩
        rw [← hV] at hj
        have HVV := hid hV
        have hVl : V < 18446744073709551616 := by omega
        have hVm : V % 4294967296 = dg A (n / 32 + j) := by omega
        clear hV
        go_wp2
        go_roundw
        case rel =>
          refine ⟨j, V, V / 2 ^ (n % 32) % 4294967296 :: Q, by omega, rfl, rfl, hVl, hid hVm, hid (by rw [List.length_cons, hQ.out]; omega), hok.cons (Nat.mod_lt _ (by decide)), hid ?_, ?_, hB1.setCell (Nat.le_refl _) _⟩
          · rw [val_cons, hval.out, val_drop_succ A (n / 32 + j) (by rw [hla.out]; omega), HVV.out]
            refine (down_step (by omega) _ _ _ hxj ?_).symm
            have h5 := val_mod_dg (A.drop (n / 32 + (j + 1))) (hA.ok.drop _)
            rw [h5, dg_drop, Nat.add_zero, hHd.out]
          · have := hR.set' j (V / 2 ^ (n % 32) % 4294967296) (z := (V : Int) / 2 ^ (n % 32) % 4294967296) (by simp)
            rwa [set_low] at this
        case measure => simp [intOf]
  · have HBT : Hid (((y : Int) != 0) = true ↔ val A % 2 ^ n ≠ 0) := by rw [decide_eq_false ht, Bool.false_or] at hbt; exact hid hbt
    clear hbt
    go_enter Tryd.func110, Tryd.ntmps110
    go_wp2_with (first
      | (go_at_call 71; refine (trim_any _ _ _ (A.take (n / 32)) _ hT).mono ?_; rintro e w5 ⟨rfl, rfl⟩)
      | (at_make; refine wpList_make_full _ rfl _ _ 22 rfl w.heap.size 43 i0 (.int .u32 0) 1 Tryd.underlying22 hi hz0 hz1 .i64 .i64 _ _ (la - n / 32) rfl rfl (by omega) (by omega) ?c1 ?c2 ?c3 ?_))
    case c1 => rw [hz2]; omega
    case c2 => unfold maxLen; omega
    case c3 => simp
    intro w1 hown hgrow
    have hrow : Rw w1 w.heap.size (List.replicate (la - n / 32) 0) := Rw.of_own hown (made_zeros _ _ (by omega))
    have hbel : Below w.heap.size w w1 := (Below.refl _ _).grown hgrow (Nat.le_refl _) (by intro k hk; simp at hk)
    clear hown hgrow hi hz0 hz1 hz2 hmask ht
    go_wp2
    go_loopw [10, 11] (fun c i wr => ∃ (k H : Nat) (Q : List Nat), k ≤ la - n / 32 ∧ i = .int .i64 ((k : Int) - 1) ∧ c = .int .u64 (H : Int) ∧ H < 18446744073709551616 ∧ Hid (H % 4294967296 = dg A (n / 32 + k)) ∧ Hid (Q.length = la - n / 32 - k) ∧ Ok Q ∧
        Hid (val Q = val (A.drop (n / 32 + k)) / 2 ^ (n % 32)) ∧ Rw wr w.heap.size (List.replicate k 0 ++ Q) ∧ Below w.heap.size w wr) (fun _ i _ => (intOf i + 1).toNat)
    case atStart => exact ⟨la - n / 32, 0, [], by omega, by go_num, rfl, by decide, hid (by rw [Nat.add_comm, hm]; unfold dg; rw [getD_out _ _ (by rw [hla.out]; exact Nat.le_refl _)]), hid (by simp), Ok.nil, hid (by rw [Nat.add_comm, hm, List.drop_eq_nil_of_le (by rw [hla.out]; exact Nat.le_refl _)]; simp [val]), by simpa using hrow, hbel⟩
    case round =>
      obtain ⟨k, H, Q, hk, rfl, rfl, hH, hHd, hQ, hok, hval, hR, hB1⟩ := hrel
      clear hrow hbel hcell
      cases k with
      | zero =>
        have hv := hval.out
        rw [Nat.add_zero] at hv
        have HV := hid hv
        clear hv
        go_wp2
        go_ret2
        refine ⟨some ⟨w.heap.size, 0, none⟩, la - n / 32, la - n / 32, _, rfl, ⟨Q, ?_, ?_, by omega, (by first | exact HBT.out | simpa using HBT.out)⟩, hB1⟩
        · have hRd := (show Rw wr w.heap.size Q by simpa using hR).whole hok (la - n / 32) (by rw [hQ.out]; omega) (by omega)
          have hql : Q.length = la - n / 32 := by rw [hQ.out]; omega
          rwa [hql] at hRd
        · rw [HV.out, HQU.out]
      | succ j =>
        obtain ⟨ba', off', hae, hc⟩ := (hA.keep hB1).cells (by omega)
        simp only [Option.some.injEq, Addr.mk.injEq, and_true] at hae
        obtain ⟨hae1, hae2⟩ := hae
        subst hae1 hae2
        have hcell := hc (n / 32 + j) (by omega)
        have hxj := hA.ok.dg (n / 32 + j)
        have hfr := hR.free j
        have hsz : j < (List.replicate (j + 1) 0 ++ Q).length := by rw [List.length_append, List.length_replicate]; omega
        have hcur := hR.cell j hsz
        clear hc hsz
        have hj := high_join H (dg A (n / 32 + j)) hxj
        obtain ⟨V, hV⟩ : ∃ V, V = H % 4294967296 * 4294967296 + dg A (n / 32 + j) := ⟨_, rfl⟩
        rw [← hV] at hj
        have HVV := hid hV
        have hVl : V < 18446744073709551616 := by omega
        have hVm : V % 4294967296 = dg A (n / 32 + j) := by omega
        clear hV
        go_wp2
        go_roundw
        case rel =>
          refine ⟨j, V, V / 2 ^ (n % 32) % 4294967296 :: Q, by omega, rfl, rfl, hVl, hid hVm, hid (by rw [List.length_cons, hQ.out]; omega), hok.cons (Nat.mod_lt _ (by decide)), hid ?_, ?_, hB1.setCell (Nat.le_refl _) _⟩
          · rw [val_cons, hval.out, val_drop_succ A (n / 32 + j) (by rw [hla.out]; omega), HVV.out]
            refine (down_step (by omega) _ _ _ hxj ?_).symm
            have h5 := val_mod_dg (A.drop (n / 32 + (j + 1))) (hA.ok.drop _)
            rw [h5, dg_drop, Nat.add_zero, hHd.out]
          · have := hR.set' j (V / 2 ^ (n % 32) % 4294967296) (z := (V : Int) / 2 ^ (n % 32) % 4294967296) (by simp)
            rwa [set_low] at this
        case measure => simp [intOf]

theorem shiftDown_any (aa : Option Addr) (la ca : Nat) (A : List Nat) (n : Nat) (w : World) (hA : Rd w aa la ca A) (hsa : la ≤ 5000) (hn : n ≤ 9223372036854775807) :
    Calls Tryd.prog 110 #[.slice aa la ca, .int .i64 (n : Int)] w fun e w' => ∃ so sl sc b, e = .returned (.tuple #[.slice so sl sc, .bool b]) ∧ Downs w' A n la so sl sc b ∧ Below w.heap.size w w' := by
  rcases Nat.lt_or_ge (n / 32) la with h | h
  · exact shiftDown_some aa la ca A n w hA hsa hn h
  · exact shiftDown_all aa la ca A n w hA hsa hn h
end Go.Proofs.YtldafoojkimdeaaDoor

namespace Go.Proofs.YtldafoojkimdeaaDoor
open Go.RowKit Lm

theorem top_up {B DD : List Nat} {m : Nat} (oB : Ok B) (hl : B.length = m + 2) (ht : dg B (m + 1) ≠ 0) (oD : Ok DD) (hDl : DD.length = m + 3) (hv : val DD = val B * 2 ^ (32 - bl (dg B (m + 1)))) :
    val (DD.take (m + 2)) = val DD ∧ 2147483648 ≤ dg DD (m + 1) ∧ val DD < P (m + 2) := by
  have h32 := oB.dg (m + 1)
  have hvB := val_take_dg B (m + 1) (by omega)
  rw [List.take_of_length_le (by omega)] at hvB
  have hB1 := val_lt (oB.take (m + 1))
  rw [List.length_take, Nat.min_eq_left (by omega)] at hB1
  generalize dg B (m + 1) = t at *
  have hk1 := (bl_le t (bl t)).1 (Nat.le_refl _)
  have hk2 : ¬ bl t ≤ bl t - 1 ∧ bl t ≤ 32 ∧ 0 < bl t := by
    have h0 : ¬ bl t ≤ 0 := by rw [bl_le]; simp; exact ht
    have h1 : bl t ≤ 32 := (bl_le t 32).2 h32
    omega
  obtain ⟨hk3, hk4, hk5⟩ := hk2
  rw [bl_le] at hk3
  generalize bl t = k at *
  have e1 : (4294967296 : Nat) = 2 ^ k * 2 ^ (32 - k) := by rw [← Nat.pow_add, Nat.add_sub_cancel' hk4]
  have e2 : (2147483648 : Nat) = 2 ^ (k - 1) * 2 ^ (32 - k) := by rw [← Nat.pow_add, show k - 1 + (32 - k) = 31 by omega]
  have hu : 0 < 2 ^ (32 - k) := Nat.two_pow_pos _
  have hP := P_pos (m + 1)
  have hD1 : val DD < P (m + 2) := by
    rw [hv, show m + 2 = m + 1 + 1 by rfl, P_succ, e1, ← Nat.mul_assoc]
    refine Nat.mul_lt_mul_of_pos_right ?_ hu
    have := Nat.mul_le_mul_left (P (m + 1)) (show t + 1 ≤ 2 ^ k from hk1)
    rw [Nat.mul_add, Nat.mul_one] at this
    omega
  have hD2 : P (m + 1) * 2147483648 ≤ val DD := by
    rw [hv, e2, ← Nat.mul_assoc]
    refine Nat.mul_le_mul_right _ ?_
    have := Nat.mul_le_mul_left (P (m + 1)) (show 2 ^ (k - 1) ≤ t by omega)
    omega
  have hT := val_take_small (L := DD) (m + 2) hD1
  refine ⟨hT, ?_, hD1⟩
  have h7 := val_take_dg DD (m + 1) (by omega)
  rw [show m + 1 + 1 = m + 2 by rfl, hT] at h7
  have h8 := val_lt (oD.take (m + 1))
  rw [List.length_take, Nat.min_eq_left (by omega)] at h8
  rcases Nat.lt_or_ge (dg DD (m + 1)) 2147483648 with h9 | h9
  · have := Nat.mul_le_mul_left (P (m + 1)) (show dg DD (m + 1) + 1 ≤ 2147483648 from h9)
    rw [Nat.mul_add, Nat.mul_one] at this
    omega
  · exact h9

theorem row_first {X V : Nat} (D p : Nat) (h : V = X) : X = D * (p * val []) + V := by
  rw [val_nil, Nat.mul_zero, Nat.mul_zero, Nat.zero_add, h]
theorem row_before {L DD : List Nat} {j m : Nat} (hLok : Ok L) (hj : j < L.length) (hT1 : val (DD.take (m + 2)) = val DD) (hT3 : val DD < P (m + 2)) (hb : val (L.drop (j + 1)) < val DD) :
    val ((L.drop j).take (m + 3)) < val (DD.take (m + 2)) * 4294967296 := by
  obtain ⟨e1, e2, _⟩ := div_row (n := m + 2) hLok hj (Nat.le_of_lt hT3) hb
  rw [hT1]
  exact Nat.lt_of_le_of_lt (Nat.le_of_eq e1) e2
theorem row_done {L M DD Q : List Nat} {X j m qv la : Nat} (hLok : Ok L) (hl : L.length = la + 1) (hj : j + (m + 3) ≤ la + 1) (hT1 : val (DD.take (m + 2)) = val DD) (hT3 : val DD < P (m + 2)) (hI : X = val DD * (P (j + 1) * val Q) + val L) (hb : val (L.drop (j + 1)) < val DD)
    (hq : val ((L.drop j).take (m + 3)) / val (DD.take (m + 2)) = qv) (hM : val M = val ((L.drop j).take (m + 3)) % val (DD.take (m + 2))) (hMl : M.length = m + 3) :
    (L.take j ++ M ++ L.drop (j + (m + 3))).length = la + 1 ∧ X = val DD * (P j * val (qv :: Q)) + val (L.take j ++ M ++ L.drop (j + (m + 3))) ∧ val ((L.take j ++ M ++ L.drop (j + (m + 3))).drop j) < val DD ∧ qv < 4294967296 := by
  have hlt := row_before hLok (by omega) hT1 hT3 hb
  rw [hT1] at hq hM hlt
  obtain ⟨h1, h2⟩ := div_next (n := m + 2) hLok (by omega) (by omega) (Nat.le_of_lt hT3) hI hb hM hMl
  refine ⟨?_, ?_, h2, ?_⟩
  · rw [List.length_append, List.length_append, List.length_take, List.length_drop, hMl]; omega
  · rw [val_cons, ← hq]; exact h1
  · rw [← hq, Nat.div_lt_iff_lt_mul (by omega), Nat.mul_comm]; exact hlt
theorem quo_done {a b q s x : Nat} (hb : 0 < b) (hq : q = a / b) (hs : s = x) (hx : x = a % b) : a = q * b + s ∧ s < b := by
  subst hq hs hx
  exact ⟨(Nat.div_add_mod' a b).symm, Nat.mod_lt _ hb⟩

theorem shiftUp_few (aa : Option Addr) (la ca : Nat) (A : List Nat) (u : Nat) (w : World) (hA : Rd w aa la ca A) (hsa : la ≤ 5000) (hu : u ≤ 31) :
    Calls Tryd.prog 97 #[.slice aa la ca, .int .i64 (u : Int)] w fun e w' => ∃ g L, e = .returned (.slice (some ⟨g, 0, none⟩) (la + 1) (la + 1)) ∧ w.heap.size ≤ g ∧ Rw w' g L ∧ Hid (L.length = la + 1) ∧ Ok L ∧ Hid (val L = val A * 2 ^ u) ∧ Below w.heap.size w w' := by
  refine (shiftUp_any aa la ca A u w hA hsa (by omega)).mono ?_
  rintro e w' ⟨g, L, rfl, h1, h2, h3, h4, h5, h6⟩
  rw [show la + u / 32 + 1 = la + 1 by omega] at h3
  exact ⟨g, L, by rw [h3], h1, h2, hid h3, h4, hid h5, h6⟩

set_option maxRecDepth 100000 in
set_option maxHeartbeats 4000000 in
theorem divide_long (aa : Option Addr) (la ca : Nat) (A : List Nat) (ab : Option Addr) (m cb : Nat) (B : List Nat) (w : World) (hA : Rd w aa la ca A) (hB : Rd w ab (m + 2) cb B) (tA : Top A) (tB : Top B) (hsm : la ≤ 300) (hsb : m + 2 ≤ 300) (hge : val B ≤ val A) :
    Calls Tryd.prog 94 #[.slice aa la ca, .slice ab (m + 2) cb] w fun e w' => ∃ qo ql qc ro rl rc, e = .returned (.tuple #[.slice qo ql qc, .slice ro rl rc]) ∧ Divs w' (val A) (val B) qo ql qc ro rl rc ∧ Below w.heap.size w w' := by
  have hc : ¬ cmp (val A) (val B) < 0 := by unfold cmp; rw [if_neg (by omega)]; split <;> decide
  obtain ⟨i0, hi, hz0, hz1, hz2⟩ := info_parts Tryd.info43
  have hlen : m + 2 ≤ la := by
    have h1 := hA.size
    have h2 := hB.size
    rcases Nat.lt_or_ge la (m + 2) with h | h
    · have := top_length tB hA.ok (by omega); omega
    · exact h
  have ht : dg B (m + 1) ≠ 0 := by
    have h2 := hB.size
    have hne : B ≠ [] := by intro h; rw [h] at h2; simp at h2
    have := tB hne
    rw [getLast_getD, h2] at this
    exact this
  have hdl := hB.ok.dg (m + 1)
  obtain ⟨bb, boff, rfl, hcb⟩ := hB.cells (by omega)
  have hcell := hcb (m + 1) (by omega)
  clear hcb
  obtain ⟨t, htt⟩ : ∃ t, t = dg B (m + 1) := ⟨_, rfl⟩
  have HTT := hid htt
  have HT := hid ht
  rw [← htt] at hcell hdl ht
  obtain ⟨u, hu⟩ : ∃ u, u = 32 - bl t := ⟨_, rfl⟩
  have hu31 : u ≤ 31 ∧ (32 : Int) - (bl t : Int) = (u : Int) := by
    have h0 : ¬ bl t ≤ 0 := by rw [bl_le]; simp; exact ht
    have h1 : bl t ≤ 32 := (bl_le t 32).2 hdl
    omega
  obtain ⟨hu1, hu2⟩ := hu31
  have HU := hid hu
  have HU2 := hid hu2
  clear htt ht hu hu2
  go_enter Tryd.func94, Tryd.ntmps94
  go_wp2_with (first
    | (go_at_call 74; refine (compare_any _ _ _ A _ _ _ B _ hA hB tA tB).mono ?_; rintro e w5 ⟨rfl, q, rfl⟩; have hcell := show (w.drewN q).cell? _ = _ from hcell)
    | (go_at_call 115; refine (zeros32_any _ _ hdl).mono ?_; rintro e w5 ⟨he, rfl⟩; rw [HU2.out] at he; subst he))
  have hA1 := hA.drewN q
  have hB1 := hB.drewN q
  have hbw : Below w.heap.size w (w.drewN q) := bdrew (Below.refl _ _) q
  have hws : w.heap.size = (w.drewN q).heap.size := rfl
  clear hcell
  generalize w.drewN q = wv at *
  go_region_with (first
    | (go_at_call_of 97 boff; (with_reducible refine (shiftUp_few (some ⟨bb, boff, none⟩) (m + 2) cb B u wv.drew hB1.drew (by omega) hu1).mono ?_); rintro e w2 ⟨gd, DD, rfl, hgd, hRD, hDl, hDo, hDv, hb2⟩)
    | (go_at_call_of 97 aa; (with_reducible refine (shiftUp_few aa la ca A u w2 (hA1.drew.keep hb2) (by omega) hu1).mono ?_); rintro e w3 ⟨gl, LL, rfl, hgl, hRL, hLl, hLo, hLv, hb3⟩))
  all_goals
    have hbx : Below wv.heap.size wv w3 := (undrew hb2).trans (hb3.mono (undrew hb2).size)
    have hs2 := (undrew hb2).size
    have hgd0 : wv.heap.size ≤ gd := hgd
    have hgl0 : w2.heap.size ≤ gl := hgl
    have hgdl := hRD.lt
    have hRD3 : Rw w3 gd DD := hRD.keep' hb3
    have hb0 : Below w.heap.size w w3 := hbw.trans (hbx.mono (by omega))
    clear hb2 hb3 hA1 hB1 hRD hbx hgd hgl
    go_wp2_with (at_make; refine wpList_make_full _ rfl _ _ 22 rfl w3.heap.size 43 i0 (.int .u32 0) 1 Tryd.underlying22 hi hz0 hz1 .i64 .i64 _ _ (la - (m + 2) + 1) rfl rfl (by omega) (by omega) ?c1 ?c2 ?c3 ?_)
    case c1 => rw [hz2]; omega
    case c2 => unfold maxLen; omega
    case c3 => simp
    intro w4 hown hgrow
    have hrow : Rw w4 w3.heap.size (List.replicate (la - (m + 2) + 1) 0) := Rw.of_own hown (made_zeros _ _ (by omega))
    have hbel : Below w3.heap.size w3 w4 := (Below.refl _ _).grown hgrow (Nat.le_refl _) (by intro k hk; simp at hk)
    have hRD4 := hRD3.keep' hbel
    have hRL4 := hRL.keep' hbel
    have hs3 := hRL.lt
    have hb4 : Below w.heap.size w w4 := hb0.trans (hbel.mono (by omega))
    clear hown hgrow hRD3 hRL hb0 hbel
    obtain ⟨hT1, hT2, hT3⟩ := top_up hB.ok hB.size HT.out hDo hDl.out (by rw [← HTT.out, ← HU.out]; exact hDv.out)
    have hXlt := val_lt hA.ok
    rw [hA.size] at hXlt
    have hfirst := div_first (L := LL) (B := DD.take (m + 2)) (X := val A) (up := u) (la := la) (n := m + 2) hLo hLv.out hXlt hLl.out (by omega) hlen hu1 (by rw [List.length_take, hDl.out]; omega) (by rw [dg_take _ _ _ (by omega)]; exact hT2)
    rw [hT1] at hfirst
    have HF := hid hfirst
    have HT1 := hid hT1
    have HT2 := hid hT2
    have HT3 := hid hT3
    have HI := hid (row_first (val DD) (P (la - (m + 2) + 1)) hLv.out)
    have hne : gd ≠ gl := by omega
    clear hT1 hT2 hT3 hXlt hfirst hi hz0 hz1 hz2
    go_wp2
    go_loopw [12] (fun i wr => ∃ (k : Nat) (L Q : List Nat), k ≤ la - (m + 2) + 1 ∧ i = .int .i64 ((k : Int) - 1) ∧ Hid (L.length = la + 1) ∧ Ok L ∧ Rw wr gl L ∧ Rw wr gd DD ∧ Hid (Q.length = la - (m + 2) + 1 - k) ∧ Ok Q ∧ Rw wr w3.heap.size (List.replicate k 0 ++ Q) ∧
        Hid (val A * 2 ^ u = val DD * (P k * val Q) + val L) ∧ Hid (val (L.drop k) < val DD) ∧ Below w.heap.size w wr) (fun i _ => (intOf i + 1).toNat)
    case atStart => exact ⟨la - (m + 2) + 1, LL, [], Nat.le_refl _, by go_num, hLl, hLo, hRL4, hRD4, hid (by simp), Ok.nil, by simpa using hrow, HI, HF, hb4⟩
    case round =>
      obtain ⟨k, L, Q, hk, rfl, hL, hLok, hRl, hRd, hQ, hQok, hRq, hval, hb, hB1⟩ := hrel
      clear hrow hRL4 hRD4 hb4 HI HF hLl hLv hLo
      cases k with
      | zero =>
        have hv := hval.out
        have hb0 := hb.out
        rw [List.drop_zero] at hb0
        have hu0 : 0 < 2 ^ u := Nat.two_pow_pos _
        have hBpos : 0 < val B := by
          rcases Nat.eq_zero_or_pos (val B) with h | h
          · rw [hDv.out, h, Nat.zero_mul] at hb0; omega
          · exact h
        obtain ⟨hq, hr⟩ := div_last hu0 hv hDv.out hBpos hb0
        have hLn : val (L.take (m + 2)) = val L := val_take_small _ (Nat.lt_trans hb0 HT3.out)
        have hS : val (L.take (m + 2)) / 2 ^ u = val A % val B := by rw [hLn, hr, Nat.mul_div_cancel _ hu0]
        have HQ := hid hq
        have HS := hid hS
        have HBP := hid hBpos
        have hLt := hRl.rd hLok 0 (m + 2) (la + 1) (by rw [hL.out]; omega) (by omega) (by omega)
        rw [List.drop_zero] at hLt
        clear hv hb0 hu0 hBpos hq hr hLn hS
        go_wp2_with (go_at_call 110; refine (shiftDown_any _ _ _ (L.take (m + 2)) u _ hLt (by omega) (by omega)).mono ?_; rintro e w5 ⟨so, sl, sc, bl2, rfl, ⟨S, hSr, hSv, hsl, _⟩, hb5⟩; have HSV := hid hSv; clear hSv)
        go_ret2
        obtain ⟨hx1, hx2⟩ := quo_done HBP.out HQ.out HSV.out HS.out
        have hq5 : Rd w5 (some ⟨w3.heap.size, 0, none⟩) (la - (m + 2) + 1) (la - (m + 2) + 1) Q := by
          have h1 := ((show Rw wr w3.heap.size Q by simpa using hRq).keep' hb5).whole hQok (la - (m + 2) + 1) (by rw [hQ.out]; omega) (by omega)
          have h2 : Q.length = la - (m + 2) + 1 := by rw [hQ.out]; rfl
          rwa [h2] at h1
        exact ⟨_, _, _, _, _, _, rfl, ⟨Q, S, hq5, hSr, hx1, hx2, by omega, by omega⟩, hB1.trans (hb5.mono hB1.size)⟩
      | succ j =>
        have hjl : j < L.length := by rw [hL.out]; omega
        have HLT := hid (row_before hLok hjl HT1.out HT3.out hb.out)
        have hl3 : j + (m + 2) + 1 - j = m + 3 := by omega
        have hsz : j < (List.replicate (j + 1) 0 ++ Q).length := by rw [List.length_append, List.length_replicate]; omega
        have HSZ := hid hsz
        clear hjl hsz
        go_wp2_with (go_at_call 116; rw [hl3]; refine (reduce_any gl j m (m + 3) gd (m + 2 + 1) L DD wr hRl hLok hRd hDo hne (by rw [hL.out]; omega) (by rw [hDl.out]; omega) (by omega) (by omega) (by omega) (by omega) (by omega) (by omega) HT2.out HLT.out).mono ?_; rintro e w5 ⟨M, he, hMl, hMo, hRl5, hMv, hg5⟩; generalize hqv : val ((L.drop j).take (m + 3)) / val (DD.take (m + 2)) = qv at he; subst he; have HML := hid hMl; have HMV := hid hMv; have HQV := hid hqv; have hRq5 := hRq.grown hg5 (by omega); have hfr5 := hRq5.free j; have hcur5 := hRq5.cell j HSZ.out; clear hMl hMv hqv)
        obtain ⟨hy1, hy2, hy3, hy4⟩ := row_done hLok hL.out (by omega) HT1.out HT3.out hval.out hb.out HQV.out HMV.out HML.out
        have Hy1 := hid hy1
        have Hy2 := hid hy2
        have Hy3 := hid hy3
        clear hy1 hy2 hy3
        have hRd5 := hRd.grown hg5 hne
        have hB5 := hB1.grown hg5 (by have := hB1.size; omega) (by intro k hk; simp at hk; omega)
        go_roundw
        case rel =>
          refine ⟨j, L.take j ++ M ++ L.drop (j + (m + 3)), qv :: Q, by omega, rfl, Hy1, ((hLok.take _).append hMo).append (hLok.drop _), hRl5.other (show gl ≠ w3.heap.size by omega) _, hRd5.other (show gd ≠ w3.heap.size by omega) _, hid (by rw [List.length_cons, hQ.out]; omega), hQok.cons hy4, ?_, Hy2, Hy3, hB5.setCell (show w.heap.size ≤ w3.heap.size by omega) _⟩
          have := hRq5.set j qv
          rwa [set_low] at this
        case measure => simp [intOf]
end Go.Proofs.YtldafoojkimdeaaDoor
