/- Walk of the law's helper powered: whether a power is the document's. No condition but those that each theorem names. -/
import Derived.Test.YtldafoojkimdeaaDoorY5m
import Derived.Test.YtldafoojkimdeaaDoorR23m
namespace Go.Proofs.YtldafoojkimdeaaDoor
open Go.RowKit Lm

/-- What powered leaves: true; it has written over the answer's limbs alone. -/
def Powd (w0 w : World) (ao : Option Addr) (r : Ending) (w' : World) : Prop := r = .returned (.bool true) ∧ Below w0.heap.size w0 w' ∧ (∀ b, b < w.heap.size → Apart ao b → w'.heap[b]? = w.heap[b]?) ∧ w.heap.size ≤ w'.heap.size
theorem powd {w0 w wz w' : World} {ao : Option Addr} (hz : Below w.heap.size w wz) (hb : Below w0.heap.size w0 w') (hst : ∀ b, b < wz.heap.size → Apart ao b → w'.heap[b]? = wz.heap[b]?) (hsz : wz.heap.size ≤ w'.heap.size) : Powd w0 w ao (.returned (.bool true)) w' :=
  ⟨rfl, hb, fun b h1 h2 => (hst b (Nat.lt_of_lt_of_le h1 hz.size) h2).trans (hz.block b h1), Nat.le_trans hz.size hsz⟩

section
variable {n : Bool} {ao : Option Addr} {len : Nat} {c : Int} {nx : Bool} {xo : Option Addr} {xl xc : Nat} {vx : Int} {w0 w : World}

set_option maxRecDepth 100000 in
set_option maxHeartbeats 2000000 in
theorem powR_bad {v N e : Int} (hb0 : Below w0.heap.size w0 w) (hA : AnsE w0.heap.size w n ao len c e v) (hB : Big w nx xo xl xc vx) (he : e ≠ 0) :
    Calls Tryd.prog 55 #[.agg #[.bool nx, .slice xo xl xc], .int .i64 N, .int .i64 e, .agg #[.bool n, .slice ao len len], .int .i64 c] w (Powd w0 w ao) := by
  obtain ⟨hpx, hpp, hzb, -⟩ := new2 (w := w) (o1 := .cells #[.bool nx, .slice xo xl xc] 28) (o2 := .cells #[.bool n, .slice ao len len] 24) rfl
  obtain ⟨x0, x1, _, _⟩ := two_cells hpx
  obtain ⟨p0, p1, _, _⟩ := two_cells hpp
  have HB := hid hzb
  have HK := hid (hb0.trans (hzb.mono hb0.size))
  have AZ := hid (hA.keep hzb)
  have BZ := hid (hB.keep hzb)
  have hne : (e != 0) = true := by simpa using he
  have HE := hid he
  clear hpx hpp hzb hA hB hb0 he
  go_enter Tryd.func55, Tryd.ntmps55
  go_wp2_with (go_at_call 38; (with_reducible refine (isA HK.out AZ.out BZ.out (fun h => absurd h HE.out)).mono ?_); rintro r w5 ⟨rfl, hbW, hst, hsz⟩)
  go_ret
  exact powd HB.out hbW hst hsz

set_option maxRecDepth 100000 in
set_option maxHeartbeats 2000000 in
theorem powR_neg {v N : Int} (hb0 : Below w0.heap.size w0 w) (hA : AnsE w0.heap.size w n ao len c 15 v) (hB : Big w nx xo xl xc vx) (hN : N < 0) :
    Calls Tryd.prog 55 #[.agg #[.bool nx, .slice xo xl xc], .int .i64 N, .int .i64 0, .agg #[.bool n, .slice ao len len], .int .i64 c] w (Powd w0 w ao) := by
  obtain ⟨hpx, hpp, hzb, -⟩ := new2 (w := w) (o1 := .cells #[.bool nx, .slice xo xl xc] 28) (o2 := .cells #[.bool n, .slice ao len len] 24) rfl
  obtain ⟨x0, x1, _, _⟩ := two_cells hpx
  obtain ⟨p0, p1, _, _⟩ := two_cells hpp
  have HB := hid hzb
  have HK := hid (hb0.trans (hzb.mono hb0.size))
  have AZ := hid (hA.keep hzb)
  have BZ := hid (hB.keep hzb)
  clear hpx hpp hzb hA hB hb0
  go_enter Tryd.func55, Tryd.ntmps55
  go_wp2_with (go_at_call 38; (with_reducible refine (isA HK.out AZ.out BZ.out (fun h => absurd h (by decide))).mono ?_); rintro r w5 ⟨rfl, hbW, hst, hsz⟩)
  go_ret
  exact powd HB.out hbW hst hsz

theorem big_unit {w : World} (hB : Big w nx xo xl xc vx) (h : xl < 2) : (xl = 0 ∧ vx = 0) ∨ (xl = 1 ∧ (vx = 1 ∨ vx = -1)) := by
  have hl := hB.len
  have h1 := (bl_le vx.natAbs xl).1 (by omega)
  rcases (show xl = 0 ∨ xl = 1 by omega) with e | e
  · subst e; left; simp at h1; exact ⟨rfl, h1⟩
  · subst e; right
    refine ⟨rfl, ?_⟩
    have h2 : vx.natAbs ≠ 0 := fun e => by
      rw [e] at hl
      have := (bl_le 0 0).2 (by simp)
      omega
    have : (2 : Nat) ^ 1 = 2 := rfl
    omega
theorem powv_odd {v N : Int} (h : v = 1 ∨ v = -1) (hN : 0 ≤ N) (h1 : N % 2 = 1) : powv v N = v := by
  unfold powv
  obtain ⟨k, hk⟩ : ∃ k : Nat, N.toNat = 2 * k + 1 := ⟨N.toNat / 2, by omega⟩
  rw [hk, Int.pow_succ, Int.pow_mul]
  rcases h with rfl | rfl <;> simp [Int.one_pow]
theorem powv_even {v N : Int} (h : v = 1 ∨ v = -1) (hN : 0 ≤ N) (h1 : ¬ N % 2 = 1) : powv v N = 1 := by
  unfold powv
  obtain ⟨k, hk⟩ : ∃ k : Nat, N.toNat = 2 * k := ⟨N.toNat / 2, by omega⟩
  rw [hk, Int.pow_mul]
  rcases h with rfl | rfl <;> simp [Int.one_pow]
theorem powv_nought {N : Int} (hN : 0 < N) : powv 0 N = 0 := by
  unfold powv
  obtain ⟨k, hk⟩ : ∃ k : Nat, N.toNat = k + 1 := ⟨N.toNat - 1, by omega⟩
  rw [hk, Int.pow_succ]; simp

set_option maxRecDepth 100000 in
set_option maxHeartbeats 4000000 in
theorem powR_short {N : Int} (hb0 : Below w0.heap.size w0 w) (hA : AnsE w0.heap.size w n ao len c 0 (powv vx N)) (hB : Big w nx xo xl xc vx) (hN : 0 ≤ N) (hx : xl < 2) :
    Calls Tryd.prog 55 #[.agg #[.bool nx, .slice xo xl xc], .int .i64 N, .int .i64 0, .agg #[.bool n, .slice ao len len], .int .i64 c] w (Powd w0 w ao) := by
  obtain ⟨hpx, hpp, hzb, -⟩ := new2 (w := w) (o1 := .cells #[.bool nx, .slice xo xl xc] 28) (o2 := .cells #[.bool n, .slice ao len len] 24) rfl
  obtain ⟨x0, x1, _, _⟩ := two_cells hpx
  obtain ⟨p0, p1, _, _⟩ := two_cells hpp
  have HPX := hid hpx
  have HPP := hid hpp
  have HB := hid hzb
  have HK := hid (hb0.trans (hzb.mono hb0.size))
  have AZ := hid (hA.keep hzb)
  have BZ := hid (hB.keep hzb)
  have hu := big_unit hB hx
  clear hpx hpp hzb hA hB hb0
  have n0 : ¬ N < 0 := by omega
  rcases hu with ⟨rfl, rfl⟩ | ⟨rfl, hv⟩
  · by_cases hz : 0 < N
    · have HV := hid (powv_nought hz).symm
      go_enter Tryd.func55, Tryd.ntmps55
      go_wp2_with (first
        | (go_at_call 25; (with_reducible refine (smallR 1 _ (by omega) (by omega)).mono ?_); rintro e w2 ⟨n5, o5, l5, k5, rfl, hl5, hS5, hb2⟩; have hW := hid (fun o => hb2.alloc hb2.size o); obtain ⟨x20, x21, _, _⟩ := two_cells (heap_keep HPX.out hb2); obtain ⟨p20, p21, _, _⟩ := two_cells (heap_keep HPP.out hb2); have hs2 : w.heap.size + 1 < w2.heap.size := lt_of_block (heap_keep HPP.out hb2); have hs3 : w.heap.size < w2.heap.size := Nat.lt_of_succ_lt hs2)
        | (go_at_call 38; (with_reducible refine (isA (HK.out.trans ((hW.out _).mono HK.out.size)) (AZ.out.keep (hW.out _)) (BZ.out.keep (hW.out _)) (fun _ => HV.out)).mono ?_); rintro r w5 ⟨rfl, hbW, hst, hsz⟩))
      go_ret
      exact powd (HB.out.trans ((hW.out _).mono HB.out.size)) hbW hst hsz
    · obtain rfl : N = 0 := by omega
      have HV := hid (show (1 : Int) = powv 0 0 from rfl)
      go_enter Tryd.func55, Tryd.ntmps55
      go_wp2_with (first
        | (go_at_call 25; (with_reducible refine (smallR 1 _ (by omega) (by omega)).mono ?_); rintro e w2 ⟨n5, o5, l5, k5, rfl, hl5, hS5, hb2⟩; have hW := hid (fun o => hb2.alloc hb2.size o); obtain ⟨x20, x21, _, _⟩ := two_cells (heap_keep HPX.out hb2); obtain ⟨p20, p21, _, _⟩ := two_cells (heap_keep HPP.out hb2); have hs2 : w.heap.size + 1 < w2.heap.size := lt_of_block (heap_keep HPP.out hb2); have hs3 : w.heap.size < w2.heap.size := Nat.lt_of_succ_lt hs2)
        | (go_at_call 38; (with_reducible refine (isA (HK.out.trans ((hW.out _).mono HK.out.size)) (AZ.out.keep (hW.out _)) (hS5.alloc _) (fun _ => HV.out)).mono ?_); rintro r w5 ⟨rfl, hbW, hst, hsz⟩))
      go_ret
      exact powd (HB.out.trans ((hW.out _).mono HB.out.size)) hbW hst hsz
  · by_cases hz : 0 < N
    · by_cases ho : N % 2 = 1
      · have hm : (N % 2 == 1) = true := by simpa using ho
        have HV := hid (powv_odd hv hN ho).symm
        clear ho hv
        go_enter Tryd.func55, Tryd.ntmps55
        go_wp2_with (first
          | (go_at_call 25; (with_reducible refine (smallR 1 _ (by omega) (by omega)).mono ?_); rintro e w2 ⟨n5, o5, l5, k5, rfl, hl5, hS5, hb2⟩; have hW := hid (fun o => hb2.alloc hb2.size o); obtain ⟨x20, x21, _, _⟩ := two_cells (heap_keep HPX.out hb2); obtain ⟨p20, p21, _, _⟩ := two_cells (heap_keep HPP.out hb2); have hs2 : w.heap.size + 1 < w2.heap.size := lt_of_block (heap_keep HPP.out hb2); have hs3 : w.heap.size < w2.heap.size := Nat.lt_of_succ_lt hs2)
          | (go_at_call 38; (with_reducible refine (isA (HK.out.trans ((hW.out _).mono HK.out.size)) (AZ.out.keep (hW.out _)) (BZ.out.keep (hW.out _)) (fun _ => HV.out)).mono ?_); rintro r w5 ⟨rfl, hbW, hst, hsz⟩))
        go_ret
        exact powd (HB.out.trans ((hW.out _).mono HB.out.size)) hbW hst hsz
      · have hm : (N % 2 == 1) = false := by simpa using ho
        have HV := hid (powv_even hv hN ho).symm
        clear ho hv
        go_enter Tryd.func55, Tryd.ntmps55
        go_wp2_with (first
          | (go_at_call 25; (with_reducible refine (smallR 1 _ (by omega) (by omega)).mono ?_); rintro e w2 ⟨n5, o5, l5, k5, rfl, hl5, hS5, hb2⟩; have hW := hid (fun o => hb2.alloc hb2.size o); obtain ⟨x20, x21, _, _⟩ := two_cells (heap_keep HPX.out hb2); obtain ⟨p20, p21, _, _⟩ := two_cells (heap_keep HPP.out hb2); have hs2 : w.heap.size + 1 < w2.heap.size := lt_of_block (heap_keep HPP.out hb2); have hs3 : w.heap.size < w2.heap.size := Nat.lt_of_succ_lt hs2)
          | (go_at_call 38; (with_reducible refine (isA (HK.out.trans ((hW.out _).mono HK.out.size)) (AZ.out.keep (hW.out _)) (hS5.alloc _) (fun _ => HV.out)).mono ?_); rintro r w5 ⟨rfl, hbW, hst, hsz⟩))
        go_ret
        exact powd (HB.out.trans ((hW.out _).mono HB.out.size)) hbW hst hsz
    · obtain rfl : N = 0 := by omega
      have HV := hid (show (1 : Int) = powv vx 0 by unfold powv; simp)
      clear hv
      go_enter Tryd.func55, Tryd.ntmps55
      go_wp2_with (first
        | (go_at_call 25; (with_reducible refine (smallR 1 _ (by omega) (by omega)).mono ?_); rintro e w2 ⟨n5, o5, l5, k5, rfl, hl5, hS5, hb2⟩; have hW := hid (fun o => hb2.alloc hb2.size o); obtain ⟨x20, x21, _, _⟩ := two_cells (heap_keep HPX.out hb2); obtain ⟨p20, p21, _, _⟩ := two_cells (heap_keep HPP.out hb2); have hs2 : w.heap.size + 1 < w2.heap.size := lt_of_block (heap_keep HPP.out hb2); have hs3 : w.heap.size < w2.heap.size := Nat.lt_of_succ_lt hs2)
        | (go_at_call 38; (with_reducible refine (isA (HK.out.trans ((hW.out _).mono HK.out.size)) (AZ.out.keep (hW.out _)) (hS5.alloc _) (fun _ => HV.out)).mono ?_); rintro r w5 ⟨rfl, hbW, hst, hsz⟩))
      go_ret
      exact powd (HB.out.trans ((hW.out _).mono HB.out.size)) hbW hst hsz

theorem powv_stop {v : Int} {N k : Nat} (h : 4096 < bl (v ^ k).natAbs) (hk : k ≤ N) (h1 : 1 ≤ v.natAbs) : 4096 < bl (powv v (N : Int)).natAbs := by
  unfold powv
  rw [Int.toNat_natCast, Int.natAbs_pow]
  rw [Int.natAbs_pow] at h
  have h2 : v.natAbs ^ k ≤ v.natAbs ^ N := Nat.pow_le_pow_right h1 hk
  have h3 := (bl_le (v.natAbs ^ k) (bl (v.natAbs ^ N))).2 (Nat.lt_of_le_of_lt h2 ((bl_le _ _).1 (Nat.le_refl _)))
  omega

set_option maxRecDepth 100000 in
set_option maxHeartbeats 4000000 in
theorem powR_long {N : Nat} (hb0 : Below w0.heap.size w0 w) (hA : AnsE w0.heap.size w n ao len c 0 (powv vx (N : Int))) (hB : Big w nx xo xl xc vx) (hN : N ≤ 9223372036854775807) (hx : 2 ≤ xl) (hx2 : xl ≤ 4096) :
    Calls Tryd.prog 55 #[.agg #[.bool nx, .slice xo xl xc], .int .i64 (N : Int), .int .i64 0, .agg #[.bool n, .slice ao len len], .int .i64 c] w (Powd w0 w ao) := by
  obtain ⟨hpx, hpp, hzb, -⟩ := new2 (w := w) (o1 := .cells #[.bool nx, .slice xo xl xc] 28) (o2 := .cells #[.bool n, .slice ao len len] 24) rfl
  obtain ⟨x0, x1, _, _⟩ := two_cells hpx
  obtain ⟨p0, p1, _, _⟩ := two_cells hpp
  have HPX := hid hpx
  have HPP := hid hpp
  have HB := hid hzb
  have HK := hid (hb0.trans (hzb.mono hb0.size))
  have AZ := hid (hA.keep hzb)
  have BZ := hid (hB.keep hzb)
  have hv1 : Hid (1 ≤ vx.natAbs) := hid (by
    have hl := hB.len
    rcases Nat.eq_zero_or_pos vx.natAbs with h | h
    · rw [h] at hl
      have := (bl_le 0 0).2 (by simp)
      omega
    · exact h)
  clear hpx hpp hzb hA hB hb0
  have n0 : ¬ (N : Int) < 0 := by omega
  have n1 : ¬ xl < 2 := by omega
  go_enter Tryd.func55, Tryd.ntmps55
  go_wp2_with (go_at_call 25; (with_reducible refine (smallR 1 _ (by omega) (by omega)).mono ?_); rintro e w2 ⟨n5, o5, l5, k5, rfl, hl5, hS5, hb2⟩)
  obtain ⟨wz, hwz⟩ : ∃ wz, wz = (w.alloc (.cells #[.bool nx, .slice xo xl xc] 28)).alloc (.cells #[.bool n, .slice ao len len] 24) := ⟨_, rfl⟩
  rw [← hwz] at HPX HPP HB HK AZ BZ hb2
  clear hwz x0 x1 p0 p1
  have hS6 := hS5.alloc (.cells #[.bool n5, .slice o5 l5 k5] 28)
  have hb3 := hb2.alloc hb2.size (.cells #[.bool n5, .slice o5 l5 k5] 28)
  have P3 := Pr.new w2 28 (.bool n5) (.slice o5 l5 k5)
  have hgz := hb2.size
  have hgl : w2.heap.size < (w2.alloc (.cells #[.bool n5, .slice o5 l5 k5] 28)).heap.size := by simp
  generalize w2.heap.size = g at *
  generalize w2.alloc (.cells #[.bool n5, .slice o5 l5 k5] 28) = wa at *
  clear hS5 hb2
  go_loopw [13] (fun i wr => ∃ (k : Nat) (nw : Bool) (wo : Option Addr) (wl wc : Nat), i = .int .i64 (k : Int) ∧ k ≤ N ∧ Pr wr g 28 (.bool nw) (.slice wo wl wc) ∧ Big wr nw wo wl wc (vx ^ k) ∧ wl ≤ 4096 ∧ Below wz.heap.size wz wr) (fun i _ => N - (intOf i).toNat)
  case atStart => exact ⟨0, n5, o5, l5, k5, rfl, by omega, P3, hS6.cast (by simp), by omega, hb3⟩
  case round =>
    clear P3 hS6 hb3 hgl
    obtain ⟨k, nw, wo, wl, wc, rfl, hk, hP, hW, hwl, hbr⟩ := hrel
    obtain ⟨kp0, kp1, kf0, kf1⟩ := two_cells hP
    obtain ⟨x0, x1, _, _⟩ := two_cells (heap_keep HPX.out hbr)
    obtain ⟨p0, p1, _, _⟩ := two_cells (heap_keep HPP.out hbr)
    have HP := hid hP
    clear hP
    by_cases hlt : k < N
    · go_wp2_with (go_at_call 40; (with_reducible refine (timesR _ _ _ _ _ _ _ _ _ _ _ hW (BZ.out.keep hbr) (by omega) (by omega)).mono ?_); rintro e w4 ⟨n6, o6, l6, c6, rfl, hl6, hbig, hb4⟩; have H4 := hid (heap_keep HP.out hb4); obtain ⟨q0, q1, qf0, qf1⟩ := two_cells H4.out)
      have hb5 := hbr.trans (hb4.mono hbr.size)
      have hb6 := (hb5.setCell (p := ⟨g, 0, none⟩) hgz (.bool n6)).setCell (p := ⟨g, 1, none⟩) hgz (.slice o6 l6 c6)
      have P6 := set_pair H4.out (.bool n6) (.slice o6 l6 c6)
      have B6 := (hbig.other H4.out (by simp) (by simp) (.bool n6) (.slice o6 l6 c6)).cast (show vx ^ k * vx = vx ^ (k + 1) from (Int.pow_succ vx k).symm)
      generalize (w4.setCell ⟨g, 0, none⟩ (.bool n6)).setCell ⟨g, 1, none⟩ (.slice o6 l6 c6) = w6 at *
      clear kp0 kp1 kf0 kf1 q0 q1 qf0 qf1 x0 x1 p0 p1 hbig hb5 hb4
      have hlen := hid B6.len
      have HP6 := hid P6
      clear P6
      obtain ⟨x0, x1, _, _⟩ := two_cells (heap_keep HPX.out hb6)
      obtain ⟨p0, p1, _, _⟩ := two_cells (heap_keep HPP.out hb6)
      obtain ⟨kp0, kp1, kf0, kf1⟩ := two_cells HP6.out
      by_cases hlong : 4096 < l6
      · have hd : decide (4096 < l6) = true := decide_eq_true hlong
        have hs := hid (powv_stop (v := vx) (N := N) (k := k + 1) (by rw [← hlen.out]; exact hlong) hlt hv1.out)
        clear hlong
        go_wp2_with (first
          | (go_at_call 45; refine (longR1 _ _ _ _ _).mono ?_; rintro e w7 ⟨rfl, hb7⟩; rw [hd]; have H7 := hid (heap_keep HP6.out hb7); have hb8 := hid (hb6.trans (hb7.mono hb6.size)); obtain ⟨r0, r1, _, _⟩ := two_cells H7.out; obtain ⟨x70, x71, _, _⟩ := two_cells (heap_keep HPX.out hb8.out); obtain ⟨p70, p71, _, _⟩ := two_cells (heap_keep HPP.out hb8.out))
          | (go_at_call 38; (with_reducible refine (isA (HK.out.trans (hb8.out.mono HK.out.size)) ((AZ.out.keep hb8.out).long hs.out) (B6.keep hb7) (fun h => absurd h (by decide))).mono ?_); rintro r w5 ⟨rfl, hbW, hst, hsz⟩))
        go_ret
        exact powd (HB.out.trans (hb8.out.mono HB.out.size)) hbW hst hsz
      · have hd : decide (4096 < l6) = false := decide_eq_false hlong
        go_wp2_with (go_at_call 45; refine (longR1 _ _ _ _ _).mono ?_; rintro e w7 ⟨rfl, hb7⟩; rw [hd]; have H7 := hid (heap_keep HP6.out hb7); have hb8 := hid (hb6.trans (hb7.mono hb6.size)))
        go_roundw
        case rel => exact ⟨k + 1, n6, o6, l6, c6, by go_num, hlt, H7.out, B6.keep hb7, by omega, hb8.out⟩
        case measure => simp [intOf]; omega
    · obtain rfl : k = N := by omega
      have hv : Hid (vx ^ k = powv vx (k : Int)) := hid (by unfold powv; rw [Int.toNat_natCast])
      go_wp2_with (go_at_call 38; (with_reducible refine (isA (HK.out.trans (hbr.mono HK.out.size)) (AZ.out.keep hbr) hW (fun _ => hv.out)).mono ?_); rintro r w5 ⟨rfl, hbW, hst, hsz⟩)
      go_ret
      exact powd (HB.out.trans (hbr.mono HB.out.size)) hbW hst hsz
end
end Go.Proofs.YtldafoojkimdeaaDoor
