/- For every input of bulk at most 1048576 (values and letters together; beyond 2^45 limbs the law's own lists of bits would be longer than a slice can be) the law BigintPowers answers true and leaves its arguments alone: no other condition; the package-level tables that its row lists are tied to the program's text by the given tie. -/
import Derived.Test.YtldafoojkimdeaaDoorY5m
import Derived.Test.YtldafoojkimdeaaDoorR23m
import Derived.Test.YtldafoojkimdeaaDoorY2m
import Derived.Test.YtldafoojkimdeaaDoorW34
import Derived.Test.YtldafoojkimdeaaDoorR12m
namespace Go.Proofs.YtldafoojkimdeaaDoor
open Go.RowKit Lm

/-- What powered leaves: true; it has written over the answer's limbs alone. -/
def Powd (w0 w : World) (ao : Option Addr) (r : Ending) (w' : World) : Prop := r = .returned (.bool true) ∧ Below w0.heap.size w0 w' ∧ (∀ b, b < w.heap.size → Apart ao b → w'.heap[b]? = w.heap[b]?) ∧ w.heap.size ≤ w'.heap.size
theorem powd {w0 w wz w' : World} {ao : Option Addr} (hz : Below w.heap.size w wz) (hb : Below w0.heap.size w0 w') (hst : ∀ b, b < wz.heap.size → Apart ao b → w'.heap[b]? = wz.heap[b]?) (hsz : wz.heap.size ≤ w'.heap.size) : Powd w0 w ao (.returned (.bool true)) w' :=
  ⟨rfl, hb, fun b h1 h2 => (hst b (Nat.lt_of_lt_of_le h1 hz.size) h2).trans (hz.block b h1), Nat.le_trans hz.size hsz⟩

section
variable {n : Bool} {ao : Option Addr} {len : Nat} {c : Int} {nx : Bool} {xo : Option Addr} {xl xc : Nat} {vx : Int} {w0 w : World}

set_option maxRecDepth 100000 in
set_option maxHeartbeats 2000000 in
theorem powR_bad {v N e : Int} (hb0 : Below w0.heap.size w0 w) (hA : AnsE w0.heap.size w n ao len c e v) (hB : Big w nx xo xl xc vx) (he : e ≠ 0) :
    Calls Tryd.prog 55 #[.agg #[.bool nx, .slice xo xl xc], .int .i64 N, .int .i64 e, .agg #[.bool n, .slice ao len len], .int .i64 c] w (Powd w0 w ao) := by
  obtain ⟨hpx, hpp, hzb, -⟩ := new2 (w := w) (o1 := .cells #[.bool nx, .slice xo xl xc] 28) (o2 := .cells #[.bool n, .slice ao len len] 24) rfl
  obtain ⟨x0, x1, _, _⟩ := two_cells hpx
  obtain ⟨p0, p1, _, _⟩ := two_cells hpp
  have HB := hid hzb
  have HK := hid (hb0.trans (hzb.mono hb0.size))
  have AZ := hid (hA.keep hzb)
  have BZ := hid (hB.keep hzb)
  have hne : (e != 0) = true := by simpa using he
  have HE := hid he
  clear hpx hpp hzb hA hB hb0 he
  go_enter Tryd.func55, Tryd.ntmps55
  go_wp2_with (go_at_call 38; (with_reducible refine (isA HK.out AZ.out BZ.out (fun h => absurd h HE.out)).mono ?_); rintro r w5 ⟨rfl, hbW, hst, hsz⟩)
  go_ret
  exact powd HB.out hbW hst hsz

set_option maxRecDepth 100000 in
set_option maxHeartbeats 2000000 in
theorem powR_neg {v N : Int} (hb0 : Below w0.heap.size w0 w) (hA : AnsE w0.heap.size w n ao len c 15 v) (hB : Big w nx xo xl xc vx) (hN : N < 0) :
    Calls Tryd.prog 55 #[.agg #[.bool nx, .slice xo xl xc], .int .i64 N, .int .i64 0, .agg #[.bool n, .slice ao len len], .int .i64 c] w (Powd w0 w ao) := by
  obtain ⟨hpx, hpp, hzb, -⟩ := new2 (w := w) (o1 := .cells #[.bool nx, .slice xo xl xc] 28) (o2 := .cells #[.bool n, .slice ao len len] 24) rfl
  obtain ⟨x0, x1, _, _⟩ := two_cells hpx
  obtain ⟨p0, p1, _, _⟩ := two_cells hpp
  have HB := hid hzb
  have HK := hid (hb0.trans (hzb.mono hb0.size))
  have AZ := hid (hA.keep hzb)
  have BZ := hid (hB.keep hzb)
  clear hpx hpp hzb hA hB hb0
  go_enter Tryd.func55, Tryd.ntmps55
  go_wp2_with (go_at_call 38; (with_reducible refine (isA HK.out AZ.out BZ.out (fun h => absurd h (by decide))).mono ?_); rintro r w5 ⟨rfl, hbW, hst, hsz⟩)
  go_ret
  exact powd HB.out hbW hst hsz

theorem big_unit {w : World} (hB : Big w nx xo xl xc vx) (h : xl < 2) : (xl = 0 ∧ vx = 0) ∨ (xl = 1 ∧ (vx = 1 ∨ vx = -1)) := by
  have hl := hB.len
  have h1 := (bl_le vx.natAbs xl).1 (by omega)
  rcases (show xl = 0 ∨ xl = 1 by omega) with e | e
  · subst e; left; simp at h1; exact ⟨rfl, h1⟩
  · subst e; right
    refine ⟨rfl, ?_⟩
    have h2 : vx.natAbs ≠ 0 := fun e => by
      rw [e] at hl
      have := (bl_le 0 0).2 (by simp)
      omega
    have : (2 : Nat) ^ 1 = 2 := rfl
    omega
theorem powv_odd {v N : Int} (h : v = 1 ∨ v = -1) (hN : 0 ≤ N) (h1 : N % 2 = 1) : powv v N = v := by
  unfold powv
  obtain ⟨k, hk⟩ : ∃ k : Nat, N.toNat = 2 * k + 1 := ⟨N.toNat / 2, by omega⟩
  rw [hk, Int.pow_succ, Int.pow_mul]
  rcases h with rfl | rfl <;> simp [Int.one_pow]
theorem powv_even {v N : Int} (h : v = 1 ∨ v = -1) (hN : 0 ≤ N) (h1 : ¬ N % 2 = 1) : powv v N = 1 := by
  unfold powv
  obtain ⟨k, hk⟩ : ∃ k : Nat, N.toNat = 2 * k := ⟨N.toNat / 2, by omega⟩
  rw [hk, Int.pow_mul]
  rcases h with rfl | rfl <;> simp [Int.one_pow]
theorem powv_nought {N : Int} (hN : 0 < N) : powv 0 N = 0 := by
  unfold powv
  obtain ⟨k, hk⟩ : ∃ k : Nat, N.toNat = k + 1 := ⟨N.toNat - 1, by omega⟩
  rw [hk, Int.pow_succ]; simp

set_option maxRecDepth 100000 in
set_option maxHeartbeats 4000000 in
theorem powR_short {N : Int} (hb0 : Below w0.heap.size w0 w) (hA : AnsE w0.heap.size w n ao len c 0 (powv vx N)) (hB : Big w nx xo xl xc vx) (hN : 0 ≤ N) (hx : xl < 2) :
    Calls Tryd.prog 55 #[.agg #[.bool nx, .slice xo xl xc], .int .i64 N, .int .i64 0, .agg #[.bool n, .slice ao len len], .int .i64 c] w (Powd w0 w ao) := by
  obtain ⟨hpx, hpp, hzb, -⟩ := new2 (w := w) (o1 := .cells #[.bool nx, .slice xo xl xc] 28) (o2 := .cells #[.bool n, .slice ao len len] 24) rfl
  obtain ⟨x0, x1, _, _⟩ := two_cells hpx
  obtain ⟨p0, p1, _, _⟩ := two_cells hpp
  have HPX := hid hpx
  have HPP := hid hpp
  have HB := hid hzb
  have HK := hid (hb0.trans (hzb.mono hb0.size))
  have AZ := hid (hA.keep hzb)
  have BZ := hid (hB.keep hzb)
  have hu := big_unit hB hx
  clear hpx hpp hzb hA hB hb0
  have n0 : ¬ N < 0 := by omega
  rcases hu with ⟨rfl, rfl⟩ | ⟨rfl, hv⟩
  · by_cases hz : 0 < N
    · have HV := hid (powv_nought hz).symm
      go_enter Tryd.func55, Tryd.ntmps55
      go_wp2_with (first
        | (go_at_call 25; (with_reducible refine (smallR 1 _ (by omega) (by omega)).mono ?_); rintro e w2 ⟨n5, o5, l5, k5, rfl, hl5, hS5, hb2⟩; have hW := hid (fun o => hb2.alloc hb2.size o); obtain ⟨x20, x21, _, _⟩ := two_cells (heap_keep HPX.out hb2); obtain ⟨p20, p21, _, _⟩ := two_cells (heap_keep HPP.out hb2); have hs2 : w.heap.size + 1 < w2.heap.size := lt_of_block (heap_keep HPP.out hb2); have hs3 : w.heap.size < w2.heap.size := Nat.lt_of_succ_lt hs2)
        | (go_at_call 38; (with_reducible refine (isA (HK.out.trans ((hW.out _).mono HK.out.size)) (AZ.out.keep (hW.out _)) (BZ.out.keep (hW.out _)) (fun _ => HV.out)).mono ?_); rintro r w5 ⟨rfl, hbW, hst, hsz⟩))
      go_ret
      exact powd (HB.out.trans ((hW.out _).mono HB.out.size)) hbW hst hsz
    · obtain rfl : N = 0 := by omega
      have HV := hid (show (1 : Int) = powv 0 0 from rfl)
      go_enter Tryd.func55, Tryd.ntmps55
      go_wp2_with (first
        | (go_at_call 25; (with_reducible refine (smallR 1 _ (by omega) (by omega)).mono ?_); rintro e w2 ⟨n5, o5, l5, k5, rfl, hl5, hS5, hb2⟩; have hW := hid (fun o => hb2.alloc hb2.size o); obtain ⟨x20, x21, _, _⟩ := two_cells (heap_keep HPX.out hb2); obtain ⟨p20, p21, _, _⟩ := two_cells (heap_keep HPP.out hb2); have hs2 : w.heap.size + 1 < w2.heap.size := lt_of_block (heap_keep HPP.out hb2); have hs3 : w.heap.size < w2.heap.size := Nat.lt_of_succ_lt hs2)
        | (go_at_call 38; (with_reducible refine (isA (HK.out.trans ((hW.out _).mono HK.out.size)) (AZ.out.keep (hW.out _)) (hS5.alloc _) (fun _ => HV.out)).mono ?_); rintro r w5 ⟨rfl, hbW, hst, hsz⟩))
      go_ret
      exact powd (HB.out.trans ((hW.out _).mono HB.out.size)) hbW hst hsz
  · by_cases hz : 0 < N
    · by_cases ho : N % 2 = 1
      · have hm : (N % 2 == 1) = true := by simpa using ho
        have HV := hid (powv_odd hv hN ho).symm
        clear ho hv
        go_enter Tryd.func55, Tryd.ntmps55
        go_wp2_with (first
          | (go_at_call 25; (with_reducible refine (smallR 1 _ (by omega) (by omega)).mono ?_); rintro e w2 ⟨n5, o5, l5, k5, rfl, hl5, hS5, hb2⟩; have hW := hid (fun o => hb2.alloc hb2.size o); obtain ⟨x20, x21, _, _⟩ := two_cells (heap_keep HPX.out hb2); obtain ⟨p20, p21, _, _⟩ := two_cells (heap_keep HPP.out hb2); have hs2 : w.heap.size + 1 < w2.heap.size := lt_of_block (heap_keep HPP.out hb2); have hs3 : w.heap.size < w2.heap.size := Nat.lt_of_succ_lt hs2)
          | (go_at_call 38; (with_reducible refine (isA (HK.out.trans ((hW.out _).mono HK.out.size)) (AZ.out.keep (hW.out _)) (BZ.out.keep (hW.out _)) (fun _ => HV.out)).mono ?_); rintro r w5 ⟨rfl, hbW, hst, hsz⟩))
        go_ret
        exact powd (HB.out.trans ((hW.out _).mono HB.out.size)) hbW hst hsz
      · have hm : (N % 2 == 1) = false := by simpa using ho
        have HV := hid (powv_even hv hN ho).symm
        clear ho hv
        go_enter Tryd.func55, Tryd.ntmps55
        go_wp2_with (first
          | (go_at_call 25; (with_reducible refine (smallR 1 _ (by omega) (by omega)).mono ?_); rintro e w2 ⟨n5, o5, l5, k5, rfl, hl5, hS5, hb2⟩; have hW := hid (fun o => hb2.alloc hb2.size o); obtain ⟨x20, x21, _, _⟩ := two_cells (heap_keep HPX.out hb2); obtain ⟨p20, p21, _, _⟩ := two_cells (heap_keep HPP.out hb2); have hs2 : w.heap.size + 1 < w2.heap.size := lt_of_block (heap_keep HPP.out hb2); have hs3 : w.heap.size < w2.heap.size := Nat.lt_of_succ_lt hs2)
          | (go_at_call 38; (with_reducible refine (isA (HK.out.trans ((hW.out _).mono HK.out.size)) (AZ.out.keep (hW.out _)) (hS5.alloc _) (fun _ => HV.out)).mono ?_); rintro r w5 ⟨rfl, hbW, hst, hsz⟩))
        go_ret
        exact powd (HB.out.trans ((hW.out _).mono HB.out.size)) hbW hst hsz
    · obtain rfl : N = 0 := by omega
      have HV := hid (show (1 : Int) = powv vx 0 by unfold powv; simp)
      clear hv
      go_enter Tryd.func55, Tryd.ntmps55
      go_wp2_with (first
        | (go_at_call 25; (with_reducible refine (smallR 1 _ (by omega) (by omega)).mono ?_); rintro e w2 ⟨n5, o5, l5, k5, rfl, hl5, hS5, hb2⟩; have hW := hid (fun o => hb2.alloc hb2.size o); obtain ⟨x20, x21, _, _⟩ := two_cells (heap_keep HPX.out hb2); obtain ⟨p20, p21, _, _⟩ := two_cells (heap_keep HPP.out hb2); have hs2 : w.heap.size + 1 < w2.heap.size := lt_of_block (heap_keep HPP.out hb2); have hs3 : w.heap.size < w2.heap.size := Nat.lt_of_succ_lt hs2)
        | (go_at_call 38; (with_reducible refine (isA (HK.out.trans ((hW.out _).mono HK.out.size)) (AZ.out.keep (hW.out _)) (hS5.alloc _) (fun _ => HV.out)).mono ?_); rintro r w5 ⟨rfl, hbW, hst, hsz⟩))
      go_ret
      exact powd (HB.out.trans ((hW.out _).mono HB.out.size)) hbW hst hsz

theorem powv_stop {v : Int} {N k : Nat} (h : 4096 < bl (v ^ k).natAbs) (hk : k ≤ N) (h1 : 1 ≤ v.natAbs) : 4096 < bl (powv v (N : Int)).natAbs := by
  unfold powv
  rw [Int.toNat_natCast, Int.natAbs_pow]
  rw [Int.natAbs_pow] at h
  have h2 : v.natAbs ^ k ≤ v.natAbs ^ N := Nat.pow_le_pow_right h1 hk
  have h3 := (bl_le (v.natAbs ^ k) (bl (v.natAbs ^ N))).2 (Nat.lt_of_le_of_lt h2 ((bl_le _ _).1 (Nat.le_refl _)))
  omega

set_option maxRecDepth 100000 in
set_option maxHeartbeats 4000000 in
theorem powR_long {N : Nat} (hb0 : Below w0.heap.size w0 w) (hA : AnsE w0.heap.size w n ao len c 0 (powv vx (N : Int))) (hB : Big w nx xo xl xc vx) (hN : N ≤ 9223372036854775807) (hx : 2 ≤ xl) (hx2 : xl ≤ 4096) :
    Calls Tryd.prog 55 #[.agg #[.bool nx, .slice xo xl xc], .int .i64 (N : Int), .int .i64 0, .agg #[.bool n, .slice ao len len], .int .i64 c] w (Powd w0 w ao) := by
  obtain ⟨hpx, hpp, hzb, -⟩ := new2 (w := w) (o1 := .cells #[.bool nx, .slice xo xl xc] 28) (o2 := .cells #[.bool n, .slice ao len len] 24) rfl
  obtain ⟨x0, x1, _, _⟩ := two_cells hpx
  obtain ⟨p0, p1, _, _⟩ := two_cells hpp
  have HPX := hid hpx
  have HPP := hid hpp
  have HB := hid hzb
  have HK := hid (hb0.trans (hzb.mono hb0.size))
  have AZ := hid (hA.keep hzb)
  have BZ := hid (hB.keep hzb)
  have hv1 : Hid (1 ≤ vx.natAbs) := hid (by
    have hl := hB.len
    rcases Nat.eq_zero_or_pos vx.natAbs with h | h
    · rw [h] at hl
      have := (bl_le 0 0).2 (by simp)
      omega
    · exact h)
  clear hpx hpp hzb hA hB hb0
  have n0 : ¬ (N : Int) < 0 := by omega
  have n1 : ¬ xl < 2 := by omega
  go_enter Tryd.func55, Tryd.ntmps55
  go_wp2_with (go_at_call 25; (with_reducible refine (smallR 1 _ (by omega) (by omega)).mono ?_); rintro e w2 ⟨n5, o5, l5, k5, rfl, hl5, hS5, hb2⟩)
  obtain ⟨wz, hwz⟩ : ∃ wz, wz = (w.alloc (.cells #[.bool nx, .slice xo xl xc] 28)).alloc (.cells #[.bool n, .slice ao len len] 24) := ⟨_, rfl⟩
  rw [← hwz] at HPX HPP HB HK AZ BZ hb2
  clear hwz x0 x1 p0 p1
  have hS6 := hS5.alloc (.cells #[.bool n5, .slice o5 l5 k5] 28)
  have hb3 := hb2.alloc hb2.size (.cells #[.bool n5, .slice o5 l5 k5] 28)
  have P3 := Pr.new w2 28 (.bool n5) (.slice o5 l5 k5)
  have hgz := hb2.size
  have hgl : w2.heap.size < (w2.alloc (.cells #[.bool n5, .slice o5 l5 k5] 28)).heap.size := by simp
  generalize w2.heap.size = g at *
  generalize w2.alloc (.cells #[.bool n5, .slice o5 l5 k5] 28) = wa at *
  clear hS5 hb2
  go_loopw [13] (fun i wr => ∃ (k : Nat) (nw : Bool) (wo : Option Addr) (wl wc : Nat), i = .int .i64 (k : Int) ∧ k ≤ N ∧ Pr wr g 28 (.bool nw) (.slice wo wl wc) ∧ Big wr nw wo wl wc (vx ^ k) ∧ wl ≤ 4096 ∧ Below wz.heap.size wz wr) (fun i _ => N - (intOf i).toNat)
  case atStart => exact ⟨0, n5, o5, l5, k5, rfl, by omega, P3, hS6.cast (by simp), by omega, hb3⟩
  case round =>
    clear P3 hS6 hb3 hgl
    obtain ⟨k, nw, wo, wl, wc, rfl, hk, hP, hW, hwl, hbr⟩ := hrel
    obtain ⟨kp0, kp1, kf0, kf1⟩ := two_cells hP
    obtain ⟨x0, x1, _, _⟩ := two_cells (heap_keep HPX.out hbr)
    obtain ⟨p0, p1, _, _⟩ := two_cells (heap_keep HPP.out hbr)
    have HP := hid hP
    clear hP
    by_cases hlt : k < N
    · go_wp2_with (go_at_call 40; (with_reducible refine (timesR _ _ _ _ _ _ _ _ _ _ _ hW (BZ.out.keep hbr) (by omega) (by omega)).mono ?_); rintro e w4 ⟨n6, o6, l6, c6, rfl, hl6, hbig, hb4⟩; have H4 := hid (heap_keep HP.out hb4); obtain ⟨q0, q1, qf0, qf1⟩ := two_cells H4.out)
      have hb5 := hbr.trans (hb4.mono hbr.size)
      have hb6 := (hb5.setCell (p := ⟨g, 0, none⟩) hgz (.bool n6)).setCell (p := ⟨g, 1, none⟩) hgz (.slice o6 l6 c6)
      have P6 := set_pair H4.out (.bool n6) (.slice o6 l6 c6)
      have B6 := (hbig.other H4.out (by simp) (by simp) (.bool n6) (.slice o6 l6 c6)).cast (show vx ^ k * vx = vx ^ (k + 1) from (Int.pow_succ vx k).symm)
      generalize (w4.setCell ⟨g, 0, none⟩ (.bool n6)).setCell ⟨g, 1, none⟩ (.slice o6 l6 c6) = w6 at *
      clear kp0 kp1 kf0 kf1 q0 q1 qf0 qf1 x0 x1 p0 p1 hbig hb5 hb4
      have hlen := hid B6.len
      have HP6 := hid P6
      clear P6
      obtain ⟨x0, x1, _, _⟩ := two_cells (heap_keep HPX.out hb6)
      obtain ⟨p0, p1, _, _⟩ := two_cells (heap_keep HPP.out hb6)
      obtain ⟨kp0, kp1, kf0, kf1⟩ := two_cells HP6.out
      by_cases hlong : 4096 < l6
      · have hd : decide (4096 < l6) = true := decide_eq_true hlong
        have hs := hid (powv_stop (v := vx) (N := N) (k := k + 1) (by rw [← hlen.out]; exact hlong) hlt hv1.out)
        clear hlong
        go_wp2_with (first
          | (go_at_call 45; refine (longR1 _ _ _ _ _).mono ?_; rintro e w7 ⟨rfl, hb7⟩; rw [hd]; have H7 := hid (heap_keep HP6.out hb7); have hb8 := hid (hb6.trans (hb7.mono hb6.size)); obtain ⟨r0, r1, _, _⟩ := two_cells H7.out; obtain ⟨x70, x71, _, _⟩ := two_cells (heap_keep HPX.out hb8.out); obtain ⟨p70, p71, _, _⟩ := two_cells (heap_keep HPP.out hb8.out))
          | (go_at_call 38; (with_reducible refine (isA (HK.out.trans (hb8.out.mono HK.out.size)) ((AZ.out.keep hb8.out).long hs.out) (B6.keep hb7) (fun h => absurd h (by decide))).mono ?_); rintro r w5 ⟨rfl, hbW, hst, hsz⟩))
        go_ret
        exact powd (HB.out.trans (hb8.out.mono HB.out.size)) hbW hst hsz
      · have hd : decide (4096 < l6) = false := decide_eq_false hlong
        go_wp2_with (go_at_call 45; refine (longR1 _ _ _ _ _).mono ?_; rintro e w7 ⟨rfl, hb7⟩; rw [hd]; have H7 := hid (heap_keep HP6.out hb7); have hb8 := hid (hb6.trans (hb7.mono hb6.size)))
        go_roundw
        case rel => exact ⟨k + 1, n6, o6, l6, c6, by go_num, hlt, H7.out, B6.keep hb7, by omega, hb8.out⟩
        case measure => simp [intOf]; omega
    · obtain rfl : k = N := by omega
      have hv : Hid (vx ^ k = powv vx (k : Int)) := hid (by unfold powv; rw [Int.toNat_natCast])
      go_wp2_with (go_at_call 38; (with_reducible refine (isA (HK.out.trans (hbr.mono HK.out.size)) (AZ.out.keep hbr) hW (fun _ => hv.out)).mono ?_); rintro r w5 ⟨rfl, hbW, hst, hsz⟩)
      go_ret
      exact powd (HB.out.trans (hbr.mono HB.out.size)) hbW hst hsz
end
end Go.Proofs.YtldafoojkimdeaaDoor

namespace Go.Proofs.YtldafoojkimdeaaDoor
open Go.RowKit Lm

theorem powR {n : Bool} {ao : Option Addr} {len : Nat} {c : Int} {nx : Bool} {xo : Option Addr} {xl xc : Nat} {vx : Int} {w0 w : World} {N e ee : Int} (hb0 : Below w0.heap.size w0 w) (hA : AnsE w0.heap.size w n ao len c ee (powv vx N)) (hB : Big w nx xo xl xc vx) (hN : N ≤ 9223372036854775807) (h0 : e = 0 → xl ≤ 4096) (hee : ee = if e = 0 then (if N < 0 then 15 else 0) else e) :
    Calls Tryd.prog 55 #[.agg #[.bool nx, .slice xo xl xc], .int .i64 N, .int .i64 e, .agg #[.bool n, .slice ao len len], .int .i64 c] w (Powd w0 w ao) := by
  by_cases he : e = 0
  · have hx := h0 he
    rw [if_pos he] at hee
    subst he
    by_cases hn : N < 0
    · rw [if_pos hn] at hee
      subst hee
      exact powR_neg hb0 hA hB hn
    · rw [if_neg hn] at hee
      subst hee
      by_cases h2 : xl < 2
      · exact powR_short hb0 hA hB (by omega) h2
      · obtain ⟨k, rfl⟩ : ∃ k : Nat, N = (k : Int) := ⟨N.toNat, by omega⟩
        exact powR_long hb0 hA hB (by omega) (by omega) hx
  · rw [if_neg he] at hee
    subst hee
    exact powR_bad hb0 hA hB he
theorem Aw.put28 {B : Nat} {w : World} {g : Nat} {n : Bool} {ao : Option Addr} {len : Nat} {c e v : Int} (h : Aw B w g n ao len c e v) {b : Nat} {x y : Value} (hp : w.heap[b]? = some (.cells #[x, y] 28 (0, 0))) (x' y' : Value) :
    Aw B ((w.setCell ⟨b, 0, none⟩ x').setCell ⟨b, 1, none⟩ y') g n ao len c e v := by
  have ng : g ≠ b := by
    intro e
    subst e
    have h1 := h.box.symm.trans hp
    simp at h1
  have hap : Apart ao b := h.ans.u32.pair (show Pr w b 28 x y from hp) (by decide)
  refine ⟨heap_set (heap_set h.box ng) ng, h.ans.same fun a ha => ?_⟩
  have hne : a.block ≠ b := (hap a ha).symm
  rw [Below.heap_setCell _ _ _ _ hne, Below.heap_setCell _ _ _ _ hne]
theorem two_cast (k : Nat) : ((2 ^ k : Nat) : Int) = (2 : Int) ^ k := by rw [Int.natCast_pow]; rfl
theorem shiftR (nx : Bool) (xo : Option Addr) (xl xc : Nat) (v N : Int) (w : World) (hX : Big w nx xo xl xc v) (h0 : 0 < xl) (sx : xl ≤ 4096) (hN1 : -9223372036854775808 ≤ N) (hN : N ≤ 4096) :
    Calls Tryd.prog 56 #[.agg #[.bool nx, .slice xo xl xc], .int .i64 N] w fun e w' => ∃ n' o l c, e = .returned (.agg #[.bool n', .slice o l c]) ∧ Big w' n' o l c (shv v N) ∧ Below w.heap.size w w' := by
  by_cases hp : 0 ≤ N
  · obtain ⟨k, rfl⟩ : ∃ k : Nat, N = (k : Int) := ⟨N.toNat, by omega⟩
    have e : shv v (k : Int) = v * ((2 ^ k : Nat) : Int) := by unfold shv; rw [if_pos hp, Int.toNat_natCast, two_cast]
    rw [e]
    exact shiftR_up nx xo xl xc v k w hX h0 (by omega) (by omega)
  · obtain ⟨k, hk⟩ : ∃ k : Nat, N = -(k : Int) := ⟨(-N).toNat, by omega⟩
    have e : shv v N = v / ((2 ^ k : Nat) : Int) := by unfold shv; rw [if_neg hp, two_cast, show (-N).toNat = k by omega]
    rw [e]
    by_cases hs : k ≤ 1000000
    · subst hk
      exact shiftR_down nx xo xl xc v k w hX h0 (by omega) (by omega) hs
    · exact shiftR_far nx xo xl xc v k N w hX h0 (by omega) (by omega) hk (by omega)
noncomputable def tail7 (n : Nat) : Code := seqDrop n (Tryd.f7.body.getD .skip)
noncomputable def head7 (n : Nat) : Code := seqHead (tail7 n)
noncomputable def Q7 (w : World) : Exit → Act → World → Prop := bodyPost Tryd.prog Tryd.f7 fun e w' => e = .returned (.bool true) ∧ Below w.heap.size w w'


set_option maxRecDepth 100000 in
set_option maxHeartbeats 8000000 in
theorem PW_16 {w wk wr : World}  {u0 u1 u2 u3 u4 u5 u6 u8 u9 u10 u11 u12 u13 u14 u15 u16 u17 u20 u21 u23 u24 u25 u26 u27 u28 u29 u30 u31 u32 u33 u34 u35 u36 u37 u38 u39 u40 u41 u42 u43 u44 u45 u46 u47 u48 u49 u50 u51 u52 u53 u54 u55 u56 u57 u58 u59 u60 u61 u62 u63 u64 u65 u66 u67 u68 u69 u70 u71 u72 u73 u74 u75 u76 u77 u78 u79 u80 u81 u82 u83 u84 u85 u86 u87 u88 u89 u90 u91 u92 u93 u94 u95 u96 u97 u98 u99 u100 u101 u102 : Value}
    (hbk : Below w.heap.size w wk)
    (hk : Below wk.heap.size wk wr) :
    Code.wp Tryd.prog (tail7 16) (Q7 w) ⟨#[u0, u1, u2, u3, u4, u5, u6, .bool true, u8, u9, u10, u11, u12, u13, u14, u15, u16, u17, .bool true, .bool true, u20, u21, .bool true, u23, u24, u25, u26, u27, u28, u29, u30, u31, u32, u33, u34, u35, u36, u37, u38, u39, u40, u41, u42, u43, u44, u45, u46, u47, u48, u49, u50, u51, u52, u53, u54, u55, u56, u57, u58, u59, u60, u61, u62, u63, u64, u65, u66, u67, u68, u69, u70, u71, u72, u73, u74, u75, u76, u77, u78, u79, u80, u81, u82, u83, u84, u85, u86, u87, u88, u89, u90, u91, u92, u93, u94, u95, u96, u97, u98, u99, u100, u101, u102], []⟩ wr := by
  conv => arg 2; whnf
  unfold Q7
  go_wp2
  go_ret
  exact ⟨rfl, hbk.trans (hk.mono hbk.size)⟩

set_option maxRecDepth 100000 in
set_option maxHeartbeats 8000000 in
theorem PW_15 {w wk wr : World} {nw : Bool} {ow : Option Addr} {va : Int} {vw : Int} {es : Int} {N : Int} {g20 : Nat} {lw : Nat} {cw : Nat} {cs : Int} {gs ls : Nat} {ns : Bool} {os : Option Addr} {u0 u1 u2 u3 u4 u5 u6 u8 u9 u10 u11 u12 u13 u14 u15 u22 u23 u24 u25 u26 u27 u28 u29 u30 u31 u32 u33 u34 u35 u36 u37 u38 u39 u40 u41 u42 u43 u44 u45 u46 u47 u48 u49 u50 u51 u52 u53 u54 u55 u56 u57 u58 u59 u60 u61 u62 u63 u64 u65 u66 u67 u68 u69 u70 u71 u72 u73 u74 u75 u76 u77 u78 u79 u80 u81 u82 u83 u84 u85 u86 u87 u88 u89 u90 u91 u92 u93 u94 u95 u96 u97 u98 u99 u100 u101 u102 : Value}
    (hvw : Hid (es = 0 → vw = shv va N))
    (hbk : Below w.heap.size w wk)
    (hk : Below wk.heap.size wk wr)
    (ds : Aw wk.heap.size wr gs ns os ls cs es (shv va N))
    (pw : Pr wr g20 28 (.bool nw) (.slice ow lw cw))
    (bw : Big wr nw ow lw cw vw) :
    Code.wp Tryd.prog (tail7 15) (Q7 w) ⟨#[u0, u1, u2, u3, u4, u5, u6, .bool true, u8, u9, u10, u11, u12, u13, u14, u15, .pointer (some ⟨gs, 0, none⟩), .int .i64 cs, .bool true, .bool true, .pointer (some ⟨g20, 0, none⟩), .int .i64 es, u22, u23, u24, u25, u26, u27, u28, u29, u30, u31, u32, u33, u34, u35, u36, u37, u38, u39, u40, u41, u42, u43, u44, u45, u46, u47, u48, u49, u50, u51, u52, u53, u54, u55, u56, u57, u58, u59, u60, u61, u62, u63, u64, u65, u66, u67, u68, u69, u70, u71, u72, u73, u74, u75, u76, u77, u78, u79, u80, u81, u82, u83, u84, u85, u86, u87, u88, u89, u90, u91, u92, u93, u94, u95, u96, u97, u98, u99, u100, u101, u102], []⟩ wr := by
  obtain ⟨kc0, kc1, _, _⟩ := two_cells ds.box
  obtain ⟨kv0, kv1, _, _⟩ := two_cells pw
  show Code.wp Tryd.prog (Code.seq (head7 15) (tail7 16)) _ _ _
  conv => arg 2; arg 1; whnf
  go_wp2_with (go_at_call 38; (with_reducible refine (isA hk ds.ans bw (fun h => hvw.out h)).mono ?_); rintro r w5 ⟨rfl, hbW, hst, hsz⟩)
  exact PW_16 (hbk) (hbW)

set_option maxRecDepth 100000 in
set_option maxHeartbeats 8000000 in
theorem PW_14 {w wk wr : World} {nx : Bool} {xo : Option Addr} {va : Int} {al : Int} {es : Int} {N : Int} {xl : Nat} {xc : Nat} {g8 : Nat} {g20 : Nat} {cs : Int} {gs ls : Nat} {ns : Bool} {os : Option Addr} {u0 u1 u3 u4 u5 u6 u9 u10 u12 u13 u14 u15 u22 u23 u24 u25 u26 u27 u28 u29 u30 u31 u32 u33 u34 u35 u36 u37 u38 u39 u40 u41 u42 u43 u44 u45 u46 u47 u48 u49 u50 u51 u52 u53 u54 u55 u56 u57 u58 u59 u60 u61 u62 u63 u64 u65 u66 u67 u68 u69 u70 u71 u72 u73 u74 u75 u76 u77 u78 u79 u80 u81 u82 u83 u84 u85 u86 u87 u88 u89 u90 u91 u92 u93 u94 u95 u96 u97 u98 u99 u100 u101 u102 : Value}
    (hN1 : -9223372036854775808 ≤ N)
    (hN2 : N ≤ 9223372036854775807)
    (hxl : xl ≤ 33554432)
    (hal : Hid (al = if 4096 < xl ∨ 4096 < xl then 10 else 0))
    (hes : Hid (es = shbad va N))
    (hg20 : wk.heap.size ≤ g20)
    (hbk : Below w.heap.size w wk)
    (px : Pr wk g8 28 (.bool nx) (.slice xo xl xc))
    (bx : Big wk nx xo xl xc va)
    (hk : Below wk.heap.size wk wr)
    (ds : Aw wk.heap.size wr gs ns os ls cs es (shv va N))
    (pw : Pr wr g20 28 (.bool false) (.slice none 0 0)) :
    Code.wp Tryd.prog (tail7 14) (Q7 w) ⟨#[u0, u1, .int .i64 N, u3, u4, u5, u6, .bool true, .pointer (some ⟨g8, 0, none⟩), u9, u10, .int .i64 al, u12, u13, u14, u15, .pointer (some ⟨gs, 0, none⟩), .int .i64 cs, .bool true, .bool true, .pointer (some ⟨g20, 0, none⟩), .int .i64 al, u22, u23, u24, u25, u26, u27, u28, u29, u30, u31, u32, u33, u34, u35, u36, u37, u38, u39, u40, u41, u42, u43, u44, u45, u46, u47, u48, u49, u50, u51, u52, u53, u54, u55, u56, u57, u58, u59, u60, u61, u62, u63, u64, u65, u66, u67, u68, u69, u70, u71, u72, u73, u74, u75, u76, u77, u78, u79, u80, u81, u82, u83, u84, u85, u86, u87, u88, u89, u90, u91, u92, u93, u94, u95, u96, u97, u98, u99, u100, u101, u102], []⟩ wr := by
  obtain ⟨kx0, kx1, _, _⟩ := two_cells (px.keep hk)
  obtain ⟨kw0, kw1, kwf0, kwf1⟩ := two_cells pw
  have hlen := bx.len
  have PX := hid px
  have PW := hid pw
  have hbl := hid hlen
  have HS := hes.out
  have HA := hal.out
  show Code.wp Tryd.prog (Code.seq (head7 14) (tail7 15)) _ _ _
  conv => arg 2; arg 1; whnf
  by_cases h1 : 4096 < xl
  · have e1 : al = 10 := by rw [HA, if_pos (.inl h1)]
    have e2 : es = 10 := by rw [HS]; unfold shbad; rw [if_pos (by rw [← hlen]; exact h1)]
    have e3 : al = es := e1.trans e2.symm
    have hne : (al != 0) = true := by rw [e1]; rfl
    have hvw : Hid (es = 0 → (0 : Int) = shv va N) := hid (fun h => absurd (e2.symm.trans h) (by decide))
    clear HS HA hlen e1 e2
    go_wp2
    subst e3
    exact PW_15 (hvw) (hbk) (hk) (ds) (pw) (Big.zero _)
  · have e1 : al = 0 := by rw [HA, if_neg (by omega)]
    have hne : (al != 0) = false := by rw [e1]; rfl
    have hl4 : ¬ 4096 < bl va.natAbs := by rw [← hlen]; exact h1
    by_cases h2 : xl = 0
    · have hv0 : va = 0 := by
        have h3 := (bl_le va.natAbs 0).1 (by omega)
        simp at h3; exact h3
      have e2 : es = 0 := by rw [HS]; unfold shbad; rw [if_neg hl4, if_pos hv0]
      have e3 : al = es := e1.trans e2.symm
      have hvw : Hid (es = 0 → (0 : Int) = shv va N) := hid (fun _ => by rw [hv0, shv_zero])
      have hx0 : ((xl : Int) == 0) = true := by simp; omega
      have E3 := hid e3
      clear HS HA hlen e1 e2 e3 hl4 hv0
      go_wp2
      have e3 := E3.out
      clear E3
      subst e3
      exact PW_15 (hvw) (hbk) (hk) (ds) (pw) (Big.zero _)
    · have hv0 : va ≠ 0 := fun e => h2 (by rw [hlen, e]; have h3 := (bl_le 0 0).2 (by simp); show bl 0 = 0; omega)
      have hx0 : ((xl : Int) == 0) = false := by simp; omega
      by_cases h3 : 4096 < N
      · have e2 : es = 10 := by rw [HS]; unfold shbad; rw [if_neg hl4, if_neg hv0, if_pos h3]
        have hvw : Hid (es = 0 → (0 : Int) = shv va N) := hid (fun h => absurd (e2.symm.trans h) (by decide))
        clear HS HA hlen e1 hl4
        go_wp2
        subst e2
        exact PW_15 (hvw) (hbk) (hk) (ds) (pw) (Big.zero _)
      · have e2 : es = 0 := by rw [HS]; unfold shbad; rw [if_neg hl4, if_neg hv0, if_neg h3]
        have e3 : al = es := e1.trans e2.symm
        have hx1 : 0 < xl := by omega
        have hx4 : xl ≤ 4096 := by omega
        have hn4 : N ≤ 4096 := by omega
        have E3 := hid e3
        clear HS HA hlen e1 e2 e3 hl4 hv0 h1 h2
        go_wp2_with (go_at_call 56; (with_reducible refine (shiftR _ _ _ _ va N _ (bx.keep hk) hx1 hx4 hN1 hn4).mono ?_); rintro e_ w4 ⟨n6, o6, l6, c6, rfl, hbig, hb4⟩; have H4 := hid (heap_keep PW.out hb4); obtain ⟨q0, q1, qf0, qf1⟩ := two_cells H4.out)
        have hkk := hk.trans (hb4.mono hk.size)
        have hu6 := hbig.other H4.out (by simp) (by simp) (.bool n6) (.slice o6 l6 c6)
        have hp6 := set_pair H4.out (.bool n6) (.slice o6 l6 c6)
        have hk6 := (hkk.setCell (p := ⟨g20, 0, none⟩) hg20 (.bool n6)).setCell (p := ⟨g20, 1, none⟩) hg20 (.slice o6 l6 c6)
        have e3 := E3.out
        clear E3
        subst e3
        exact PW_15 (hid (fun _ => rfl)) (hbk) (hk6) ((ds.keep hb4).put28 H4.out _ _) (hp6) (hu6)

set_option maxRecDepth 100000 in
set_option maxHeartbeats 8000000 in
theorem PW_13 {w wk wr : World} {nx : Bool} {xo : Option Addr} {va : Int} {al : Int} {es : Int} {N : Int} {xl : Nat} {xc : Nat} {g8 : Nat} {g20 : Nat} {cs : Int} {gs ls : Nat} {ns : Bool} {os : Option Addr} {u0 u1 u3 u4 u5 u6 u9 u10 u12 u13 u14 u15 u21 u22 u23 u24 u25 u26 u27 u28 u29 u30 u31 u32 u33 u34 u35 u36 u37 u38 u39 u40 u41 u42 u43 u44 u45 u46 u47 u48 u49 u50 u51 u52 u53 u54 u55 u56 u57 u58 u59 u60 u61 u62 u63 u64 u65 u66 u67 u68 u69 u70 u71 u72 u73 u74 u75 u76 u77 u78 u79 u80 u81 u82 u83 u84 u85 u86 u87 u88 u89 u90 u91 u92 u93 u94 u95 u96 u97 u98 u99 u100 u101 u102 : Value}
    (hN1 : -9223372036854775808 ≤ N)
    (hN2 : N ≤ 9223372036854775807)
    (hxl : xl ≤ 33554432)
    (hal : Hid (al = if 4096 < xl ∨ 4096 < xl then 10 else 0))
    (hes : Hid (es = shbad va N))
    (hg20 : wk.heap.size ≤ g20)
    (hbk : Below w.heap.size w wk)
    (px : Pr wk g8 28 (.bool nx) (.slice xo xl xc))
    (bx : Big wk nx xo xl xc va)
    (hk : Below wk.heap.size wk wr)
    (ds : Aw wk.heap.size wr gs ns os ls cs es (shv va N))
    (pw : Pr wr g20 28 (.bool false) (.slice none 0 0)) :
    Code.wp Tryd.prog (tail7 13) (Q7 w) ⟨#[u0, u1, .int .i64 N, u3, u4, u5, u6, .bool true, .pointer (some ⟨g8, 0, none⟩), u9, u10, .int .i64 al, u12, u13, u14, u15, .pointer (some ⟨gs, 0, none⟩), .int .i64 cs, .bool true, .bool true, .pointer (some ⟨g20, 0, none⟩), u21, u22, u23, u24, u25, u26, u27, u28, u29, u30, u31, u32, u33, u34, u35, u36, u37, u38, u39, u40, u41, u42, u43, u44, u45, u46, u47, u48, u49, u50, u51, u52, u53, u54, u55, u56, u57, u58, u59, u60, u61, u62, u63, u64, u65, u66, u67, u68, u69, u70, u71, u72, u73, u74, u75, u76, u77, u78, u79, u80, u81, u82, u83, u84, u85, u86, u87, u88, u89, u90, u91, u92, u93, u94, u95, u96, u97, u98, u99, u100, u101, u102], []⟩ wr := by
  show Code.wp Tryd.prog (Code.seq (head7 13) (tail7 14)) _ _ _
  conv => arg 2; arg 1; whnf
  go_wp2
  exact PW_14 (hN1) (hN2) (hxl) (hal) (hes) (hg20) (hbk) (px) (bx) (hk) (ds) (pw)

set_option maxRecDepth 100000 in
set_option maxHeartbeats 8000000 in
theorem PW_12 {w wk wr : World} {nx : Bool} {xo : Option Addr} {va : Int} {al : Int} {es : Int} {N : Int} {xl : Nat} {xc : Nat} {g8 : Nat} {cs : Int} {gs ls : Nat} {ns : Bool} {os : Option Addr} {u0 u1 u3 u4 u5 u6 u9 u10 u12 u13 u14 u15 u20 u21 u22 u23 u24 u25 u26 u27 u28 u29 u30 u31 u32 u33 u34 u35 u36 u37 u38 u39 u40 u41 u42 u43 u44 u45 u46 u47 u48 u49 u50 u51 u52 u53 u54 u55 u56 u57 u58 u59 u60 u61 u62 u63 u64 u65 u66 u67 u68 u69 u70 u71 u72 u73 u74 u75 u76 u77 u78 u79 u80 u81 u82 u83 u84 u85 u86 u87 u88 u89 u90 u91 u92 u93 u94 u95 u96 u97 u98 u99 u100 u101 u102 : Value}
    (hN1 : -9223372036854775808 ≤ N)
    (hN2 : N ≤ 9223372036854775807)
    (hxl : xl ≤ 33554432)
    (hal : Hid (al = if 4096 < xl ∨ 4096 < xl then 10 else 0))
    (hes : Hid (es = shbad va N))
    (hbk : Below w.heap.size w wk)
    (px : Pr wk g8 28 (.bool nx) (.slice xo xl xc))
    (bx : Big wk nx xo xl xc va)
    (hk : Below wk.heap.size wk wr)
    (ds : Aw wk.heap.size wr gs ns os ls cs es (shv va N)) :
    Code.wp Tryd.prog (tail7 12) (Q7 w) ⟨#[u0, u1, .int .i64 N, u3, u4, u5, u6, .bool true, .pointer (some ⟨g8, 0, none⟩), u9, u10, .int .i64 al, u12, u13, u14, u15, .pointer (some ⟨gs, 0, none⟩), .int .i64 cs, .bool true, .bool true, u20, u21, u22, u23, u24, u25, u26, u27, u28, u29, u30, u31, u32, u33, u34, u35, u36, u37, u38, u39, u40, u41, u42, u43, u44, u45, u46, u47, u48, u49, u50, u51, u52, u53, u54, u55, u56, u57, u58, u59, u60, u61, u62, u63, u64, u65, u66, u67, u68, u69, u70, u71, u72, u73, u74, u75, u76, u77, u78, u79, u80, u81, u82, u83, u84, u85, u86, u87, u88, u89, u90, u91, u92, u93, u94, u95, u96, u97, u98, u99, u100, u101, u102], []⟩ wr := by
  show Code.wp Tryd.prog (Code.seq (head7 12) (tail7 13)) _ _ _
  conv => arg 2; arg 1; whnf
  go_wp2
  exact PW_13 (hN1) (hN2) (hxl) (hal) (hes) (hk.size) (hbk) (px) (bx) (hk.alloc hk.size _) (ds.alloc _) (Pr.new _ _ _ _)

set_option maxRecDepth 100000 in
set_option maxHeartbeats 8000000 in
theorem PW_11 {w wk wr : World} {na : Bool} {nb : Bool} {nx : Bool} {ny : Bool} {aa : Option Addr} {ab : Option Addr} {xo : Option Addr} {yo : Option Addr} {A : List Nat} {B : List Nat} {va : Int} {vb : Int} {e : Int} {al : Int} {ep : Int} {es : Int} {N : Int} {la : Nat} {ca : Nat} {lb : Nat} {cb : Nat} {xl : Nat} {xc : Nat} {yl : Nat} {yc : Nat} {g3 : Nat} {g4 : Nat} {g8 : Nat} {g9 : Nat} {cp : Int} {cs : Int} {gp lp : Nat} {np : Bool} {op : Option Addr} {gs ls : Nat} {ns : Bool} {os : Option Addr} {u0 u1 u5 u6 u12 u13 u19 u20 u21 u22 u23 u24 u25 u26 u27 u28 u29 u30 u31 u32 u33 u34 u35 u36 u37 u38 u39 u40 u41 u42 u43 u44 u45 u46 u47 u48 u49 u50 u51 u52 u53 u54 u55 u56 u57 u58 u59 u60 u61 u62 u63 u64 u65 u66 u67 u68 u69 u70 u71 u72 u73 u74 u75 u76 u77 u78 u79 u80 u81 u82 u83 u84 u85 u86 u87 u88 u89 u90 u91 u92 u93 u94 u95 u96 u97 u98 u99 u100 u101 u102 : Value}
    (rA : Rd w aa la ca A)
    (rB : Rd w ab lb cb B)
    (sA : la ≤ 1048576)
    (sB : lb ≤ 1048576)
    (hva : Hid (num na A = va))
    (hvb : Hid (num nb B = vb))
    (hN1 : -9223372036854775808 ≤ N)
    (hN2 : N ≤ 9223372036854775807)
    (hxl : xl ≤ 33554432)
    (hyl : yl ≤ 33554432)
    (he : Hid (e = if 4096 < xl ∨ 4096 < yl then 10 else 0))
    (hbad : Hid (e = if tooLong A || tooLong B then 10 else 0))
    (hal : Hid (al = if 4096 < xl ∨ 4096 < xl then 10 else 0))
    (hbal : Hid (al = if tooLong A || tooLong A then 10 else 0))
    (hep : Hid (ep = if tooLong A = true then 10 else if N < 0 then 15 else 0))
    (hes : Hid (es = shbad va N))
    (hbk : Below w.heap.size w wk)
    (pa : Pr wk g3 24 (.bool na) (.slice aa la ca))
    (pb : Pr wk g4 24 (.bool nb) (.slice ab lb cb))
    (px : Pr wk g8 28 (.bool nx) (.slice xo xl xc))
    (bx : Big wk nx xo xl xc va)
    (py : Pr wk g9 28 (.bool ny) (.slice yo yl yc))
    (b_y : Big wk ny yo yl yc vb)
    (hk : Below wk.heap.size wk wr)
    (dp : Aw wk.heap.size wr gp np op lp cp ep (powv va N))
    (ds : Aw wk.heap.size wr gs ns os ls cs es (shv va N))
    (qps : Disj op os) :
    Code.wp Tryd.prog (tail7 11) (Q7 w) ⟨#[u0, u1, .int .i64 N, .pointer (some ⟨g3, 0, none⟩), .pointer (some ⟨g4, 0, none⟩), u5, u6, .bool true, .pointer (some ⟨g8, 0, none⟩), .pointer (some ⟨g9, 0, none⟩), .int .i64 e, .int .i64 al, u12, u13, .pointer (some ⟨gp, 0, none⟩), .int .i64 cp, .pointer (some ⟨gs, 0, none⟩), .int .i64 cs, .bool true, u19, u20, u21, u22, u23, u24, u25, u26, u27, u28, u29, u30, u31, u32, u33, u34, u35, u36, u37, u38, u39, u40, u41, u42, u43, u44, u45, u46, u47, u48, u49, u50, u51, u52, u53, u54, u55, u56, u57, u58, u59, u60, u61, u62, u63, u64, u65, u66, u67, u68, u69, u70, u71, u72, u73, u74, u75, u76, u77, u78, u79, u80, u81, u82, u83, u84, u85, u86, u87, u88, u89, u90, u91, u92, u93, u94, u95, u96, u97, u98, u99, u100, u101, u102], []⟩ wr := by
  obtain ⟨kp0, kp1, _, _⟩ := two_cells dp.box
  obtain ⟨kx0, kx1, _, _⟩ := two_cells (px.keep hk)
  have hu := dp.ans.u32
  have hA0 : Hid (al = 0 → xl ≤ 4096) := hid (fun h => by rw [hal.out] at h; by_cases h2 : 4096 < xl ∨ 4096 < xl; (· rw [if_pos h2] at h; exact absurd h (by decide)); omega)
  have hE0 : Hid (ep = if al = 0 then (if N < 0 then 15 else 0) else al) := hid (by have h1 := hbal.out; rw [Bool.or_self] at h1; rw [hep.out, h1]; cases tooLong A <;> rfl)
  show Code.wp Tryd.prog (Code.seq (head7 11) (tail7 12)) _ _ _
  conv => arg 2; arg 1; whnf
  go_wp2_with (go_at_call 55; (with_reducible refine (powR hk dp.ans (bx.keep hk) hN2 hA0.out hE0.out).mono ?_); rintro r w5 ⟨rfl, hbW, hst, hsz⟩)
  exact PW_12 (hN1) (hN2) (hxl) (hal) (hes) (hbk) (px) (bx) (hbW) (ds.keepA hu hst qps)

set_option maxRecDepth 100000 in
set_option maxHeartbeats 8000000 in
theorem PW_10 {w wk wr : World} {na : Bool} {nb : Bool} {nx : Bool} {ny : Bool} {aa : Option Addr} {ab : Option Addr} {xo : Option Addr} {yo : Option Addr} {A : List Nat} {B : List Nat} {va : Int} {vb : Int} {e : Int} {al : Int} {ep : Int} {es : Int} {N : Int} {la : Nat} {ca : Nat} {lb : Nat} {cb : Nat} {xl : Nat} {xc : Nat} {yl : Nat} {yc : Nat} {g3 : Nat} {g4 : Nat} {g8 : Nat} {g9 : Nat} {cc : Int} {cp : Int} {cs : Int} {gc lc : Nat} {nc : Bool} {oc : Option Addr} {gp lp : Nat} {np : Bool} {op : Option Addr} {gs ls : Nat} {ns : Bool} {os : Option Addr} {u0 u1 u5 u6 u19 u20 u21 u22 u23 u24 u25 u26 u27 u28 u29 u30 u31 u32 u33 u34 u35 u36 u37 u38 u39 u40 u41 u42 u43 u44 u45 u46 u47 u48 u49 u50 u51 u52 u53 u54 u55 u56 u57 u58 u59 u60 u61 u62 u63 u64 u65 u66 u67 u68 u69 u70 u71 u72 u73 u74 u75 u76 u77 u78 u79 u80 u81 u82 u83 u84 u85 u86 u87 u88 u89 u90 u91 u92 u93 u94 u95 u96 u97 u98 u99 u100 u101 u102 : Value}
    (rA : Rd w aa la ca A)
    (rB : Rd w ab lb cb B)
    (sA : la ≤ 1048576)
    (sB : lb ≤ 1048576)
    (hva : Hid (num na A = va))
    (hvb : Hid (num nb B = vb))
    (hN1 : -9223372036854775808 ≤ N)
    (hN2 : N ≤ 9223372036854775807)
    (hxl : xl ≤ 33554432)
    (hyl : yl ≤ 33554432)
    (he : Hid (e = if 4096 < xl ∨ 4096 < yl then 10 else 0))
    (hbad : Hid (e = if tooLong A || tooLong B then 10 else 0))
    (hal : Hid (al = if 4096 < xl ∨ 4096 < xl then 10 else 0))
    (hbal : Hid (al = if tooLong A || tooLong A then 10 else 0))
    (hep : Hid (ep = if tooLong A = true then 10 else if N < 0 then 15 else 0))
    (hes : Hid (es = shbad va N))
    (hbk : Below w.heap.size w wk)
    (pa : Pr wk g3 24 (.bool na) (.slice aa la ca))
    (pb : Pr wk g4 24 (.bool nb) (.slice ab lb cb))
    (px : Pr wk g8 28 (.bool nx) (.slice xo xl xc))
    (bx : Big wk nx xo xl xc va)
    (py : Pr wk g9 28 (.bool ny) (.slice yo yl yc))
    (b_y : Big wk ny yo yl yc vb)
    (hk : Below wk.heap.size wk wr)
    (dc : Aw wk.heap.size wr gc nc oc lc cc e (gcdi va vb))
    (dp : Aw wk.heap.size wr gp np op lp cp ep (powv va N))
    (ds : Aw wk.heap.size wr gs ns os ls cs es (shv va N))
    (qcp : Disj oc op)
    (qcs : Disj oc os)
    (qps : Disj op os) :
    Code.wp Tryd.prog (tail7 10) (Q7 w) ⟨#[u0, u1, .int .i64 N, .pointer (some ⟨g3, 0, none⟩), .pointer (some ⟨g4, 0, none⟩), u5, u6, .bool true, .pointer (some ⟨g8, 0, none⟩), .pointer (some ⟨g9, 0, none⟩), .int .i64 e, .int .i64 al, .pointer (some ⟨gc, 0, none⟩), .int .i64 cc, .pointer (some ⟨gp, 0, none⟩), .int .i64 cp, .pointer (some ⟨gs, 0, none⟩), .int .i64 cs, .bool true, u19, u20, u21, u22, u23, u24, u25, u26, u27, u28, u29, u30, u31, u32, u33, u34, u35, u36, u37, u38, u39, u40, u41, u42, u43, u44, u45, u46, u47, u48, u49, u50, u51, u52, u53, u54, u55, u56, u57, u58, u59, u60, u61, u62, u63, u64, u65, u66, u67, u68, u69, u70, u71, u72, u73, u74, u75, u76, u77, u78, u79, u80, u81, u82, u83, u84, u85, u86, u87, u88, u89, u90, u91, u92, u93, u94, u95, u96, u97, u98, u99, u100, u101, u102], []⟩ wr := by
  show Code.wp Tryd.prog (Code.seq (head7 10) (tail7 11)) _ _ _
  conv => arg 2; arg 1; whnf
  by_cases hz : ¬ (4096 < xl ∨ 4096 < yl)
  · have h0 : e = 0 := by rw [he.out, if_neg hz]
    have ht : (e == 0) = true := by simpa using h0
    have hsx : xl ≤ 4096 := by omega
    have hsy : yl ≤ 4096 := by omega
    clear h0 hz
    have h_c := hid (heap_keep dc.box (Below.refl _ _).drew)
    have h_px := hid (heap_keep px hk.drew)
    have h_py := hid (heap_keep py hk.drew)
    have d_bx := (bx.keep hk).drew
    have d_b_y := (b_y.keep hk).drew
    have ec := dc.drew
    have ep := dp.drew
    have es := ds.drew
    have hacc : Below wk.heap.size wk wr.drew := hk.drew
    obtain ⟨kc0, kc1, _, _⟩ := two_cells dc.box
    obtain ⟨kpx0, kpx1, _, _⟩ := two_cells (px.keep hk)
    obtain ⟨kpy0, kpy1, _, _⟩ := two_cells (py.keep hk)
    go_wp2_with fail
    go_region_held3 (fun w' => w'.cell? ⟨gc, 0, none⟩ = some (.bool nc) ∧ w'.cell? ⟨gc, 1, none⟩ = some (.slice oc lc lc) ∧ w'.cell? ⟨g8, 0, none⟩ = some (.bool nx) ∧ w'.cell? ⟨g8, 1, none⟩ = some (.slice xo xl xc) ∧ w'.cell? ⟨g9, 0, none⟩ = some (.bool ny) ∧ w'.cell? ⟨g9, 1, none⟩ = some (.slice yo yl yc))
      (first
        | go_keep
        | (with_reducible exact ⟨(two_cells h_c.out).1, (two_cells h_c.out).2.1, (two_cells h_px.out).1, (two_cells h_px.out).2.1, (two_cells h_py.out).1, (two_cells h_py.out).2.1⟩))
      (first
        | (go_at_call 54; (with_reducible refine (gcdR _ _ _ _ va _ _ _ _ vb _ d_bx d_b_y (by omega) (by omega)).mono ?_); rintro e w5 ⟨n2, o2, l2, k2, rfl, hS, hkk⟩; have h_c := hid (heap_keep h_c.out hkk); have h_px := hid (heap_keep h_px.out hkk); have h_py := hid (heap_keep h_py.out hkk); have d_bx := d_bx.keep hkk; have d_b_y := d_b_y.keep hkk; have ec := ec.keep hkk; have ep := ep.keep hkk; have es := es.keep hkk; have hacc := hacc.trans (hkk.mono hacc.size))
        | (go_at_call 38; (with_reducible refine (isA hacc ec.ans hS (fun _ => rfl)).mono ?_); rintro r w5 ⟨rfl, hbW, hst, hsz⟩; have hu := ec.ans.u32; have h_c := hid ((hst _ (lt_of_block h_c.out) ec.apart).trans h_c.out); have h_px := hid (heap_keep px hbW); have h_py := hid (heap_keep py hbW); have ep := ep.keepA hu hst qcp; have es := es.keepA hu hst qcs; have hacc := hbW))
    all_goals
      go_wp2
      exact PW_11 (rA) (rB) (sA) (sB) (hva) (hvb) (hN1) (hN2) (hxl) (hyl) (he) (hbad) (hal) (hbal) (hep) (hes) (hbk) (pa) (pb) (px) (bx) (py) (b_y) (hacc) (ep) (es) (qps)
  · have h4 : e ≠ 0 := fun h => hz (by rw [he.out] at h; by_cases h2 : 4096 < xl ∨ 4096 < yl; (· rw [if_pos h2] at h; exact absurd h (by decide)); exact h2)
    have ht : (e == 0) = false := by simpa using h4
    obtain ⟨kc0, kc1, _, _⟩ := two_cells dc.box
    obtain ⟨kx0, kx1, _, _⟩ := two_cells (px.keep hk)
    have hu := dc.ans.u32
    have H4 := hid h4
    clear h4 hz
    go_wp2_with (go_at_call 38; (with_reducible refine (isA hk dc.ans (bx.keep hk) (fun h => absurd h H4.out)).mono ?_); rintro r w5 ⟨rfl, hbW, hst, hsz⟩)
    exact PW_11 (rA) (rB) (sA) (sB) (hva) (hvb) (hN1) (hN2) (hxl) (hyl) (he) (hbad) (hal) (hbal) (hep) (hes) (hbk) (pa) (pb) (px) (bx) (py) (b_y) (hbW) (dp.keepA hu hst qcp) (ds.keepA hu hst qcs) (qps)

set_option maxRecDepth 100000 in
set_option maxHeartbeats 8000000 in
theorem PW_9 {w wk wr : World} {na : Bool} {nb : Bool} {nx : Bool} {ny : Bool} {aa : Option Addr} {ab : Option Addr} {xo : Option Addr} {yo : Option Addr} {A : List Nat} {B : List Nat} {va : Int} {vb : Int} {e : Int} {al : Int} {ep : Int} {es : Int} {N : Int} {la : Nat} {ca : Nat} {lb : Nat} {cb : Nat} {xl : Nat} {xc : Nat} {yl : Nat} {yc : Nat} {g3 : Nat} {g4 : Nat} {g8 : Nat} {g9 : Nat} {cc : Int} {cp : Int} {cs : Int} {gc lc : Nat} {nc : Bool} {oc : Option Addr} {gp lp : Nat} {np : Bool} {op : Option Addr} {gs ls : Nat} {ns : Bool} {os : Option Addr} {u0 u1 u5 u6 u18 u19 u20 u21 u22 u23 u24 u25 u26 u27 u28 u29 u30 u31 u32 u33 u34 u35 u36 u37 u38 u39 u40 u41 u42 u43 u44 u45 u46 u47 u48 u49 u50 u51 u52 u53 u54 u55 u56 u57 u58 u59 u60 u61 u62 u63 u64 u65 u66 u67 u68 u69 u70 u71 u72 u73 u74 u75 u76 u77 u78 u79 u80 u81 u82 u83 u84 u85 u86 u87 u88 u89 u90 u91 u92 u93 u94 u95 u96 u97 u98 u99 u100 u101 u102 : Value}
    (rA : Rd w aa la ca A)
    (rB : Rd w ab lb cb B)
    (sA : la ≤ 1048576)
    (sB : lb ≤ 1048576)
    (hva : Hid (num na A = va))
    (hvb : Hid (num nb B = vb))
    (hN1 : -9223372036854775808 ≤ N)
    (hN2 : N ≤ 9223372036854775807)
    (hxl : xl ≤ 33554432)
    (hyl : yl ≤ 33554432)
    (he : Hid (e = if 4096 < xl ∨ 4096 < yl then 10 else 0))
    (hbad : Hid (e = if tooLong A || tooLong B then 10 else 0))
    (hal : Hid (al = if 4096 < xl ∨ 4096 < xl then 10 else 0))
    (hbal : Hid (al = if tooLong A || tooLong A then 10 else 0))
    (hep : Hid (ep = if tooLong A = true then 10 else if N < 0 then 15 else 0))
    (hes : Hid (es = shbad va N))
    (hbk : Below w.heap.size w wk)
    (pa : Pr wk g3 24 (.bool na) (.slice aa la ca))
    (pb : Pr wk g4 24 (.bool nb) (.slice ab lb cb))
    (px : Pr wk g8 28 (.bool nx) (.slice xo xl xc))
    (bx : Big wk nx xo xl xc va)
    (py : Pr wk g9 28 (.bool ny) (.slice yo yl yc))
    (b_y : Big wk ny yo yl yc vb)
    (hk : Below wk.heap.size wk wr)
    (dc : Aw wk.heap.size wr gc nc oc lc cc e (gcdi va vb))
    (dp : Aw wk.heap.size wr gp np op lp cp ep (powv va N))
    (ds : Aw wk.heap.size wr gs ns os ls cs es (shv va N))
    (qcp : Disj oc op)
    (qcs : Disj oc os)
    (qps : Disj op os) :
    Code.wp Tryd.prog (tail7 9) (Q7 w) ⟨#[u0, u1, .int .i64 N, .pointer (some ⟨g3, 0, none⟩), .pointer (some ⟨g4, 0, none⟩), u5, u6, .bool true, .pointer (some ⟨g8, 0, none⟩), .pointer (some ⟨g9, 0, none⟩), .int .i64 e, .int .i64 al, .pointer (some ⟨gc, 0, none⟩), .int .i64 cc, .pointer (some ⟨gp, 0, none⟩), .int .i64 cp, .pointer (some ⟨gs, 0, none⟩), .int .i64 cs, u18, u19, u20, u21, u22, u23, u24, u25, u26, u27, u28, u29, u30, u31, u32, u33, u34, u35, u36, u37, u38, u39, u40, u41, u42, u43, u44, u45, u46, u47, u48, u49, u50, u51, u52, u53, u54, u55, u56, u57, u58, u59, u60, u61, u62, u63, u64, u65, u66, u67, u68, u69, u70, u71, u72, u73, u74, u75, u76, u77, u78, u79, u80, u81, u82, u83, u84, u85, u86, u87, u88, u89, u90, u91, u92, u93, u94, u95, u96, u97, u98, u99, u100, u101, u102], []⟩ wr := by
  show Code.wp Tryd.prog (Code.seq (head7 9) (tail7 10)) _ _ _
  conv => arg 2; arg 1; whnf
  go_wp2
  exact PW_10 (rA) (rB) (sA) (sB) (hva) (hvb) (hN1) (hN2) (hxl) (hyl) (he) (hbad) (hal) (hbal) (hep) (hes) (hbk) (pa) (pb) (px) (bx) (py) (b_y) (hk) (dc) (dp) (ds) (qcp) (qcs) (qps)

set_option maxRecDepth 100000 in
set_option maxHeartbeats 8000000 in
theorem PW_8 {w wk wr : World} {na : Bool} {nb : Bool} {nx : Bool} {ny : Bool} {aa : Option Addr} {ab : Option Addr} {xo : Option Addr} {yo : Option Addr} {A : List Nat} {B : List Nat} {va : Int} {vb : Int} {e : Int} {al : Int} {ep : Int} {N : Int} {la : Nat} {ca : Nat} {lb : Nat} {cb : Nat} {xl : Nat} {xc : Nat} {yl : Nat} {yc : Nat} {g3 : Nat} {g4 : Nat} {g8 : Nat} {g9 : Nat} {cc : Int} {cp : Int} {gc lc : Nat} {nc : Bool} {oc : Option Addr} {gp lp : Nat} {np : Bool} {op : Option Addr} {u0 u1 u5 u6 u16 u17 u18 u19 u20 u21 u22 u23 u24 u25 u26 u27 u28 u29 u30 u31 u32 u33 u34 u35 u36 u37 u38 u39 u40 u41 u42 u43 u44 u45 u46 u47 u48 u49 u50 u51 u52 u53 u54 u55 u56 u57 u58 u59 u60 u61 u62 u63 u64 u65 u66 u67 u68 u69 u70 u71 u72 u73 u74 u75 u76 u77 u78 u79 u80 u81 u82 u83 u84 u85 u86 u87 u88 u89 u90 u91 u92 u93 u94 u95 u96 u97 u98 u99 u100 u101 u102 : Value}
    (rA : Rd w aa la ca A)
    (rB : Rd w ab lb cb B)
    (sA : la ≤ 1048576)
    (sB : lb ≤ 1048576)
    (hva : Hid (num na A = va))
    (hvb : Hid (num nb B = vb))
    (hN1 : -9223372036854775808 ≤ N)
    (hN2 : N ≤ 9223372036854775807)
    (hxl : xl ≤ 33554432)
    (hyl : yl ≤ 33554432)
    (he : Hid (e = if 4096 < xl ∨ 4096 < yl then 10 else 0))
    (hbad : Hid (e = if tooLong A || tooLong B then 10 else 0))
    (hal : Hid (al = if 4096 < xl ∨ 4096 < xl then 10 else 0))
    (hbal : Hid (al = if tooLong A || tooLong A then 10 else 0))
    (hep : Hid (ep = if tooLong A = true then 10 else if N < 0 then 15 else 0))
    (hbk : Below w.heap.size w wk)
    (pa : Pr wk g3 24 (.bool na) (.slice aa la ca))
    (pb : Pr wk g4 24 (.bool nb) (.slice ab lb cb))
    (px : Pr wk g8 28 (.bool nx) (.slice xo xl xc))
    (bx : Big wk nx xo xl xc va)
    (py : Pr wk g9 28 (.bool ny) (.slice yo yl yc))
    (b_y : Big wk ny yo yl yc vb)
    (hk : Below wk.heap.size wk wr)
    (dc : Aw wk.heap.size wr gc nc oc lc cc e (gcdi va vb))
    (dp : Aw wk.heap.size wr gp np op lp cp ep (powv va N))
    (qcp : Disj oc op) :
    Code.wp Tryd.prog (tail7 8) (Q7 w) ⟨#[u0, u1, .int .i64 N, .pointer (some ⟨g3, 0, none⟩), .pointer (some ⟨g4, 0, none⟩), u5, u6, .bool true, .pointer (some ⟨g8, 0, none⟩), .pointer (some ⟨g9, 0, none⟩), .int .i64 e, .int .i64 al, .pointer (some ⟨gc, 0, none⟩), .int .i64 cc, .pointer (some ⟨gp, 0, none⟩), .int .i64 cp, u16, u17, u18, u19, u20, u21, u22, u23, u24, u25, u26, u27, u28, u29, u30, u31, u32, u33, u34, u35, u36, u37, u38, u39, u40, u41, u42, u43, u44, u45, u46, u47, u48, u49, u50, u51, u52, u53, u54, u55, u56, u57, u58, u59, u60, u61, u62, u63, u64, u65, u66, u67, u68, u69, u70, u71, u72, u73, u74, u75, u76, u77, u78, u79, u80, u81, u82, u83, u84, u85, u86, u87, u88, u89, u90, u91, u92, u93, u94, u95, u96, u97, u98, u99, u100, u101, u102], []⟩ wr := by
  obtain ⟨kpa0, kpa1, _, _⟩ := two_cells (pa.keep hk)
  obtain ⟨es, hes⟩ : ∃ es : Int, es = shbad va N := ⟨_, rfl⟩
  have hes := hid hes
  show Code.wp Tryd.prog (Code.seq (head7 8) (tail7 9)) _ _ _
  conv => arg 2; arg 1; whnf
  go_wp2_with fail
  refine (shiftE (rA.keep (hbk.trans (hk.mono hbk.size))) hva.out hN1 hN2 hes.out hk.size).mono ?_
  rintro r w2 ⟨n1, o1, l1, c1, rfl, hA1, hb2⟩
  have hs2 := hb2.size
  go_wp2
  exact PW_9 (rA) (rB) (sA) (sB) (hva) (hvb) (hN1) (hN2) (hxl) (hyl) (he) (hbad) (hal) (hbal) (hep) (hes) (hbk) (pa) (pb) (px) (bx) (py) (b_y) ((hk.trans (hb2.mono hk.size)).alloc (hk.trans (hb2.mono hk.size)).size _) ((dc.keep hb2).alloc _) ((dp.keep hb2).alloc _) (Aw.new hA1.1) (qcp) (Disj.later dc.ans hA1) (Disj.later dp.ans hA1)

set_option maxRecDepth 100000 in
set_option maxHeartbeats 8000000 in
theorem PW_7 {w wk wr : World} {na : Bool} {nb : Bool} {nx : Bool} {ny : Bool} {aa : Option Addr} {ab : Option Addr} {xo : Option Addr} {yo : Option Addr} {A : List Nat} {B : List Nat} {va : Int} {vb : Int} {e : Int} {al : Int} {N : Int} {la : Nat} {ca : Nat} {lb : Nat} {cb : Nat} {xl : Nat} {xc : Nat} {yl : Nat} {yc : Nat} {g3 : Nat} {g4 : Nat} {g8 : Nat} {g9 : Nat} {cc : Int} {gc lc : Nat} {nc : Bool} {oc : Option Addr} {u0 u1 u5 u6 u14 u15 u16 u17 u18 u19 u20 u21 u22 u23 u24 u25 u26 u27 u28 u29 u30 u31 u32 u33 u34 u35 u36 u37 u38 u39 u40 u41 u42 u43 u44 u45 u46 u47 u48 u49 u50 u51 u52 u53 u54 u55 u56 u57 u58 u59 u60 u61 u62 u63 u64 u65 u66 u67 u68 u69 u70 u71 u72 u73 u74 u75 u76 u77 u78 u79 u80 u81 u82 u83 u84 u85 u86 u87 u88 u89 u90 u91 u92 u93 u94 u95 u96 u97 u98 u99 u100 u101 u102 : Value}
    (rA : Rd w aa la ca A)
    (rB : Rd w ab lb cb B)
    (sA : la ≤ 1048576)
    (sB : lb ≤ 1048576)
    (hva : Hid (num na A = va))
    (hvb : Hid (num nb B = vb))
    (hN1 : -9223372036854775808 ≤ N)
    (hN2 : N ≤ 9223372036854775807)
    (hxl : xl ≤ 33554432)
    (hyl : yl ≤ 33554432)
    (he : Hid (e = if 4096 < xl ∨ 4096 < yl then 10 else 0))
    (hbad : Hid (e = if tooLong A || tooLong B then 10 else 0))
    (hal : Hid (al = if 4096 < xl ∨ 4096 < xl then 10 else 0))
    (hbal : Hid (al = if tooLong A || tooLong A then 10 else 0))
    (hbk : Below w.heap.size w wk)
    (pa : Pr wk g3 24 (.bool na) (.slice aa la ca))
    (pb : Pr wk g4 24 (.bool nb) (.slice ab lb cb))
    (px : Pr wk g8 28 (.bool nx) (.slice xo xl xc))
    (bx : Big wk nx xo xl xc va)
    (py : Pr wk g9 28 (.bool ny) (.slice yo yl yc))
    (b_y : Big wk ny yo yl yc vb)
    (hk : Below wk.heap.size wk wr)
    (dc : Aw wk.heap.size wr gc nc oc lc cc e (gcdi va vb)) :
    Code.wp Tryd.prog (tail7 7) (Q7 w) ⟨#[u0, u1, .int .i64 N, .pointer (some ⟨g3, 0, none⟩), .pointer (some ⟨g4, 0, none⟩), u5, u6, .bool true, .pointer (some ⟨g8, 0, none⟩), .pointer (some ⟨g9, 0, none⟩), .int .i64 e, .int .i64 al, .pointer (some ⟨gc, 0, none⟩), .int .i64 cc, u14, u15, u16, u17, u18, u19, u20, u21, u22, u23, u24, u25, u26, u27, u28, u29, u30, u31, u32, u33, u34, u35, u36, u37, u38, u39, u40, u41, u42, u43, u44, u45, u46, u47, u48, u49, u50, u51, u52, u53, u54, u55, u56, u57, u58, u59, u60, u61, u62, u63, u64, u65, u66, u67, u68, u69, u70, u71, u72, u73, u74, u75, u76, u77, u78, u79, u80, u81, u82, u83, u84, u85, u86, u87, u88, u89, u90, u91, u92, u93, u94, u95, u96, u97, u98, u99, u100, u101, u102], []⟩ wr := by
  obtain ⟨kpa0, kpa1, _, _⟩ := two_cells (pa.keep hk)
  obtain ⟨ep, hep⟩ : ∃ ep : Int, ep = if tooLong A = true then 10 else if N < 0 then 15 else 0 := ⟨_, rfl⟩
  have hep := hid hep
  show Code.wp Tryd.prog (Code.seq (head7 7) (tail7 8)) _ _ _
  conv => arg 2; arg 1; whnf
  go_wp2_with fail
  refine (powE (rA.keep (hbk.trans (hk.mono hbk.size))) hva.out hN2 hep.out hk.size).mono ?_
  rintro r w2 ⟨n1, o1, l1, c1, rfl, hA1, hb2⟩
  have hs2 := hb2.size
  go_wp2
  exact PW_8 (rA) (rB) (sA) (sB) (hva) (hvb) (hN1) (hN2) (hxl) (hyl) (he) (hbad) (hal) (hbal) (hep) (hbk) (pa) (pb) (px) (bx) (py) (b_y) ((hk.trans (hb2.mono hk.size)).alloc (hk.trans (hb2.mono hk.size)).size _) ((dc.keep hb2).alloc _) (Aw.new hA1.1) (Disj.later dc.ans hA1)

set_option maxRecDepth 100000 in
set_option maxHeartbeats 8000000 in
theorem PW_6 {w wk wr : World} {na : Bool} {nb : Bool} {nx : Bool} {ny : Bool} {aa : Option Addr} {ab : Option Addr} {xo : Option Addr} {yo : Option Addr} {A : List Nat} {B : List Nat} {va : Int} {vb : Int} {e : Int} {al : Int} {N : Int} {la : Nat} {ca : Nat} {lb : Nat} {cb : Nat} {xl : Nat} {xc : Nat} {yl : Nat} {yc : Nat} {g3 : Nat} {g4 : Nat} {g8 : Nat} {g9 : Nat} {u0 u1 u5 u6 u12 u13 u14 u15 u16 u17 u18 u19 u20 u21 u22 u23 u24 u25 u26 u27 u28 u29 u30 u31 u32 u33 u34 u35 u36 u37 u38 u39 u40 u41 u42 u43 u44 u45 u46 u47 u48 u49 u50 u51 u52 u53 u54 u55 u56 u57 u58 u59 u60 u61 u62 u63 u64 u65 u66 u67 u68 u69 u70 u71 u72 u73 u74 u75 u76 u77 u78 u79 u80 u81 u82 u83 u84 u85 u86 u87 u88 u89 u90 u91 u92 u93 u94 u95 u96 u97 u98 u99 u100 u101 u102 : Value}
    (rA : Rd w aa la ca A)
    (rB : Rd w ab lb cb B)
    (sA : la ≤ 1048576)
    (sB : lb ≤ 1048576)
    (hva : Hid (num na A = va))
    (hvb : Hid (num nb B = vb))
    (hN1 : -9223372036854775808 ≤ N)
    (hN2 : N ≤ 9223372036854775807)
    (hxl : xl ≤ 33554432)
    (hyl : yl ≤ 33554432)
    (he : Hid (e = if 4096 < xl ∨ 4096 < yl then 10 else 0))
    (hbad : Hid (e = if tooLong A || tooLong B then 10 else 0))
    (hal : Hid (al = if 4096 < xl ∨ 4096 < xl then 10 else 0))
    (hbal : Hid (al = if tooLong A || tooLong A then 10 else 0))
    (hbk : Below w.heap.size w wk)
    (pa : Pr wk g3 24 (.bool na) (.slice aa la ca))
    (pb : Pr wk g4 24 (.bool nb) (.slice ab lb cb))
    (px : Pr wk g8 28 (.bool nx) (.slice xo xl xc))
    (bx : Big wk nx xo xl xc va)
    (py : Pr wk g9 28 (.bool ny) (.slice yo yl yc))
    (b_y : Big wk ny yo yl yc vb)
    (hk : Below wk.heap.size wk wr) :
    Code.wp Tryd.prog (tail7 6) (Q7 w) ⟨#[u0, u1, .int .i64 N, .pointer (some ⟨g3, 0, none⟩), .pointer (some ⟨g4, 0, none⟩), u5, u6, .bool true, .pointer (some ⟨g8, 0, none⟩), .pointer (some ⟨g9, 0, none⟩), .int .i64 e, .int .i64 al, u12, u13, u14, u15, u16, u17, u18, u19, u20, u21, u22, u23, u24, u25, u26, u27, u28, u29, u30, u31, u32, u33, u34, u35, u36, u37, u38, u39, u40, u41, u42, u43, u44, u45, u46, u47, u48, u49, u50, u51, u52, u53, u54, u55, u56, u57, u58, u59, u60, u61, u62, u63, u64, u65, u66, u67, u68, u69, u70, u71, u72, u73, u74, u75, u76, u77, u78, u79, u80, u81, u82, u83, u84, u85, u86, u87, u88, u89, u90, u91, u92, u93, u94, u95, u96, u97, u98, u99, u100, u101, u102], []⟩ wr := by
  obtain ⟨kpa0, kpa1, _, _⟩ := two_cells (pa.keep hk)
  obtain ⟨kpb0, kpb1, _, _⟩ := two_cells (pb.keep hk)
  show Code.wp Tryd.prog (Code.seq (head7 6) (tail7 7)) _ _ _
  conv => arg 2; arg 1; whnf
  go_wp2_with fail
  refine (gcdE (rA.keep (hbk.trans (hk.mono hbk.size))) (rB.keep (hbk.trans (hk.mono hbk.size))) hva.out hvb.out hbad.out hk.size).mono ?_
  rintro r w2 ⟨n1, o1, l1, c1, rfl, hA1, hb2⟩
  have hs2 := hb2.size
  go_wp2
  exact PW_7 (rA) (rB) (sA) (sB) (hva) (hvb) (hN1) (hN2) (hxl) (hyl) (he) (hbad) (hal) (hbal) (hbk) (pa) (pb) (px) (bx) (py) (b_y) ((hk.trans (hb2.mono hk.size)).alloc (hk.trans (hb2.mono hk.size)).size _) (Aw.new hA1.1)

set_option maxRecDepth 100000 in
set_option maxHeartbeats 8000000 in
theorem PW_5 {w wr : World} {na : Bool} {nb : Bool} {nx : Bool} {ny : Bool} {aa : Option Addr} {ab : Option Addr} {xo : Option Addr} {yo : Option Addr} {A : List Nat} {B : List Nat} {va : Int} {vb : Int} {e : Int} {N : Int} {la : Nat} {ca : Nat} {lb : Nat} {cb : Nat} {xl : Nat} {xc : Nat} {yl : Nat} {yc : Nat} {g3 : Nat} {g4 : Nat} {g8 : Nat} {g9 : Nat} {u0 u1 u5 u6 u11 u12 u13 u14 u15 u16 u17 u18 u19 u20 u21 u22 u23 u24 u25 u26 u27 u28 u29 u30 u31 u32 u33 u34 u35 u36 u37 u38 u39 u40 u41 u42 u43 u44 u45 u46 u47 u48 u49 u50 u51 u52 u53 u54 u55 u56 u57 u58 u59 u60 u61 u62 u63 u64 u65 u66 u67 u68 u69 u70 u71 u72 u73 u74 u75 u76 u77 u78 u79 u80 u81 u82 u83 u84 u85 u86 u87 u88 u89 u90 u91 u92 u93 u94 u95 u96 u97 u98 u99 u100 u101 u102 : Value}
    (rA : Rd w aa la ca A)
    (rB : Rd w ab lb cb B)
    (sA : la ≤ 1048576)
    (sB : lb ≤ 1048576)
    (hva : Hid (num na A = va))
    (hvb : Hid (num nb B = vb))
    (hN1 : -9223372036854775808 ≤ N)
    (hN2 : N ≤ 9223372036854775807)
    (hxl : xl ≤ 33554432)
    (hyl : yl ≤ 33554432)
    (he : Hid (e = if 4096 < xl ∨ 4096 < yl then 10 else 0))
    (hbad : Hid (e = if tooLong A || tooLong B then 10 else 0))
    (hb : Below w.heap.size w wr)
    (pa : Pr wr g3 24 (.bool na) (.slice aa la ca))
    (pb : Pr wr g4 24 (.bool nb) (.slice ab lb cb))
    (px : Pr wr g8 28 (.bool nx) (.slice xo xl xc))
    (bx : Big wr nx xo xl xc va)
    (py : Pr wr g9 28 (.bool ny) (.slice yo yl yc))
    (b_y : Big wr ny yo yl yc vb) :
    Code.wp Tryd.prog (tail7 5) (Q7 w) ⟨#[u0, u1, .int .i64 N, .pointer (some ⟨g3, 0, none⟩), .pointer (some ⟨g4, 0, none⟩), u5, u6, .bool true, .pointer (some ⟨g8, 0, none⟩), .pointer (some ⟨g9, 0, none⟩), .int .i64 e, u11, u12, u13, u14, u15, u16, u17, u18, u19, u20, u21, u22, u23, u24, u25, u26, u27, u28, u29, u30, u31, u32, u33, u34, u35, u36, u37, u38, u39, u40, u41, u42, u43, u44, u45, u46, u47, u48, u49, u50, u51, u52, u53, u54, u55, u56, u57, u58, u59, u60, u61, u62, u63, u64, u65, u66, u67, u68, u69, u70, u71, u72, u73, u74, u75, u76, u77, u78, u79, u80, u81, u82, u83, u84, u85, u86, u87, u88, u89, u90, u91, u92, u93, u94, u95, u96, u97, u98, u99, u100, u101, u102], []⟩ wr := by
  obtain ⟨kpx0, kpx1, _, _⟩ := two_cells px
  show Code.wp Tryd.prog (Code.seq (head7 5) (tail7 6)) _ _ _
  conv => arg 2; arg 1; whnf
  go_wp2_with fail
  refine (longR nx xo xl xc nx xo xl xc _).mono ?_
  rintro r w2 ⟨rfl, hb2⟩
  obtain ⟨al, hx1⟩ : ∃ e : Int, e = if 4096 < xl ∨ 4096 < xl then 10 else 0 := ⟨_, rfl⟩
  rw [← hx1]
  have hal := hid hx1
  have hbal : Hid (al = if tooLong A || tooLong A then 10 else 0) := hid (hx1.trans (bad_of hva.out hva.out bx.len bx.len).symm)
  clear hx1
  go_wp2
  have hb3 := hb.trans (hb2.mono hb.size)
  exact PW_6 (rA) (rB) (sA) (sB) (hva) (hvb) (hN1) (hN2) (hxl) (hyl) (he) (hbad) (hal) (hbal) (hb3) (pa.keep hb2) (pb.keep hb2) (px.keep hb2) (bx.keep hb2) (py.keep hb2) (b_y.keep hb2) (Below.refl _ _)

set_option maxRecDepth 100000 in
set_option maxHeartbeats 8000000 in
theorem PW_4 {w wr : World} {na : Bool} {nb : Bool} {nx : Bool} {ny : Bool} {aa : Option Addr} {ab : Option Addr} {xo : Option Addr} {yo : Option Addr} {A : List Nat} {B : List Nat} {va : Int} {vb : Int} {N : Int} {la : Nat} {ca : Nat} {lb : Nat} {cb : Nat} {xl : Nat} {xc : Nat} {yl : Nat} {yc : Nat} {g3 : Nat} {g4 : Nat} {g8 : Nat} {g9 : Nat} {u0 u1 u5 u6 u10 u11 u12 u13 u14 u15 u16 u17 u18 u19 u20 u21 u22 u23 u24 u25 u26 u27 u28 u29 u30 u31 u32 u33 u34 u35 u36 u37 u38 u39 u40 u41 u42 u43 u44 u45 u46 u47 u48 u49 u50 u51 u52 u53 u54 u55 u56 u57 u58 u59 u60 u61 u62 u63 u64 u65 u66 u67 u68 u69 u70 u71 u72 u73 u74 u75 u76 u77 u78 u79 u80 u81 u82 u83 u84 u85 u86 u87 u88 u89 u90 u91 u92 u93 u94 u95 u96 u97 u98 u99 u100 u101 u102 : Value}
    (rA : Rd w aa la ca A)
    (rB : Rd w ab lb cb B)
    (sA : la ≤ 1048576)
    (sB : lb ≤ 1048576)
    (hva : Hid (num na A = va))
    (hvb : Hid (num nb B = vb))
    (hN1 : -9223372036854775808 ≤ N)
    (hN2 : N ≤ 9223372036854775807)
    (hxl : xl ≤ 33554432)
    (hyl : yl ≤ 33554432)
    (hb : Below w.heap.size w wr)
    (pa : Pr wr g3 24 (.bool na) (.slice aa la ca))
    (pb : Pr wr g4 24 (.bool nb) (.slice ab lb cb))
    (px : Pr wr g8 28 (.bool nx) (.slice xo xl xc))
    (bx : Big wr nx xo xl xc va)
    (py : Pr wr g9 28 (.bool ny) (.slice yo yl yc))
    (b_y : Big wr ny yo yl yc vb) :
    Code.wp Tryd.prog (tail7 4) (Q7 w) ⟨#[u0, u1, .int .i64 N, .pointer (some ⟨g3, 0, none⟩), .pointer (some ⟨g4, 0, none⟩), u5, u6, .bool true, .pointer (some ⟨g8, 0, none⟩), .pointer (some ⟨g9, 0, none⟩), u10, u11, u12, u13, u14, u15, u16, u17, u18, u19, u20, u21, u22, u23, u24, u25, u26, u27, u28, u29, u30, u31, u32, u33, u34, u35, u36, u37, u38, u39, u40, u41, u42, u43, u44, u45, u46, u47, u48, u49, u50, u51, u52, u53, u54, u55, u56, u57, u58, u59, u60, u61, u62, u63, u64, u65, u66, u67, u68, u69, u70, u71, u72, u73, u74, u75, u76, u77, u78, u79, u80, u81, u82, u83, u84, u85, u86, u87, u88, u89, u90, u91, u92, u93, u94, u95, u96, u97, u98, u99, u100, u101, u102], []⟩ wr := by
  obtain ⟨kpx0, kpx1, _, _⟩ := two_cells px
  obtain ⟨kpy0, kpy1, _, _⟩ := two_cells py
  show Code.wp Tryd.prog (Code.seq (head7 4) (tail7 5)) _ _ _
  conv => arg 2; arg 1; whnf
  go_wp2_with fail
  refine (longR nx xo xl xc ny yo yl yc _).mono ?_
  rintro r w2 ⟨rfl, hb2⟩
  obtain ⟨e, hx1⟩ : ∃ e : Int, e = if 4096 < xl ∨ 4096 < yl then 10 else 0 := ⟨_, rfl⟩
  rw [← hx1]
  have he := hid hx1
  have hbad : Hid (e = if tooLong A || tooLong B then 10 else 0) := hid (hx1.trans (bad_of hva.out hvb.out bx.len b_y.len).symm)
  clear hx1
  go_wp2
  have hb3 := hb.trans (hb2.mono hb.size)
  exact PW_5 (rA) (rB) (sA) (sB) (hva) (hvb) (hN1) (hN2) (hxl) (hyl) (he) (hbad) (hb3) (pa.keep hb2) (pb.keep hb2) (px.keep hb2) (bx.keep hb2) (py.keep hb2) (b_y.keep hb2)

set_option maxRecDepth 100000 in
set_option maxHeartbeats 8000000 in
theorem PW_3 {w wr : World} {na : Bool} {nb : Bool} {nx : Bool} {aa : Option Addr} {ab : Option Addr} {xo : Option Addr} {A : List Nat} {B : List Nat} {va : Int} {vb : Int} {N : Int} {la : Nat} {ca : Nat} {lb : Nat} {cb : Nat} {xl : Nat} {xc : Nat} {g3 : Nat} {g4 : Nat} {g8 : Nat} {u0 u1 u5 u6 u9 u10 u11 u12 u13 u14 u15 u16 u17 u18 u19 u20 u21 u22 u23 u24 u25 u26 u27 u28 u29 u30 u31 u32 u33 u34 u35 u36 u37 u38 u39 u40 u41 u42 u43 u44 u45 u46 u47 u48 u49 u50 u51 u52 u53 u54 u55 u56 u57 u58 u59 u60 u61 u62 u63 u64 u65 u66 u67 u68 u69 u70 u71 u72 u73 u74 u75 u76 u77 u78 u79 u80 u81 u82 u83 u84 u85 u86 u87 u88 u89 u90 u91 u92 u93 u94 u95 u96 u97 u98 u99 u100 u101 u102 : Value}
    (rA : Rd w aa la ca A)
    (rB : Rd w ab lb cb B)
    (sA : la ≤ 1048576)
    (sB : lb ≤ 1048576)
    (hva : Hid (num na A = va))
    (hvb : Hid (num nb B = vb))
    (hN1 : -9223372036854775808 ≤ N)
    (hN2 : N ≤ 9223372036854775807)
    (hxl : xl ≤ 33554432)
    (hb : Below w.heap.size w wr)
    (pa : Pr wr g3 24 (.bool na) (.slice aa la ca))
    (pb : Pr wr g4 24 (.bool nb) (.slice ab lb cb))
    (px : Pr wr g8 28 (.bool nx) (.slice xo xl xc))
    (bx : Big wr nx xo xl xc va) :
    Code.wp Tryd.prog (tail7 3) (Q7 w) ⟨#[u0, u1, .int .i64 N, .pointer (some ⟨g3, 0, none⟩), .pointer (some ⟨g4, 0, none⟩), u5, u6, .bool true, .pointer (some ⟨g8, 0, none⟩), u9, u10, u11, u12, u13, u14, u15, u16, u17, u18, u19, u20, u21, u22, u23, u24, u25, u26, u27, u28, u29, u30, u31, u32, u33, u34, u35, u36, u37, u38, u39, u40, u41, u42, u43, u44, u45, u46, u47, u48, u49, u50, u51, u52, u53, u54, u55, u56, u57, u58, u59, u60, u61, u62, u63, u64, u65, u66, u67, u68, u69, u70, u71, u72, u73, u74, u75, u76, u77, u78, u79, u80, u81, u82, u83, u84, u85, u86, u87, u88, u89, u90, u91, u92, u93, u94, u95, u96, u97, u98, u99, u100, u101, u102], []⟩ wr := by
  obtain ⟨kpb0, kpb1, _, _⟩ := two_cells pb
  show Code.wp Tryd.prog (Code.seq (head7 3) (tail7 4)) _ _ _
  conv => arg 2; arg 1; whnf
  go_wp2_with fail
  refine (ofR nb ab lb cb B _ (rB.keep hb) (by omega)).mono ?_
  rintro e w2 ⟨ny, yo, yl, yc, rfl, hl, bnew, hb2⟩
  go_wp2
  have hb3 := hb.trans (hb2.mono hb.size)
  exact PW_4 (rA) (rB) (sA) (sB) (hva) (hvb) (hN1) (hN2) (hxl) (by omega) (hb3.alloc hb3.size _) ((pa.keep hb2).alloc _) ((pb.keep hb2).alloc _) ((px.keep hb2).alloc _) ((bx.keep hb2).alloc _) (Pr.new _ _ _ _) ((bnew.cast hvb.out).alloc _)

set_option maxRecDepth 100000 in
set_option maxHeartbeats 8000000 in
theorem PW_2 {w wr : World} {na : Bool} {nb : Bool} {aa : Option Addr} {ab : Option Addr} {A : List Nat} {B : List Nat} {va : Int} {vb : Int} {N : Int} {la : Nat} {ca : Nat} {lb : Nat} {cb : Nat} {g3 : Nat} {g4 : Nat} {u0 u1 u5 u6 u8 u9 u10 u11 u12 u13 u14 u15 u16 u17 u18 u19 u20 u21 u22 u23 u24 u25 u26 u27 u28 u29 u30 u31 u32 u33 u34 u35 u36 u37 u38 u39 u40 u41 u42 u43 u44 u45 u46 u47 u48 u49 u50 u51 u52 u53 u54 u55 u56 u57 u58 u59 u60 u61 u62 u63 u64 u65 u66 u67 u68 u69 u70 u71 u72 u73 u74 u75 u76 u77 u78 u79 u80 u81 u82 u83 u84 u85 u86 u87 u88 u89 u90 u91 u92 u93 u94 u95 u96 u97 u98 u99 u100 u101 u102 : Value}
    (rA : Rd w aa la ca A)
    (rB : Rd w ab lb cb B)
    (sA : la ≤ 1048576)
    (sB : lb ≤ 1048576)
    (hva : Hid (num na A = va))
    (hvb : Hid (num nb B = vb))
    (hN1 : -9223372036854775808 ≤ N)
    (hN2 : N ≤ 9223372036854775807)
    (hb : Below w.heap.size w wr)
    (pa : Pr wr g3 24 (.bool na) (.slice aa la ca))
    (pb : Pr wr g4 24 (.bool nb) (.slice ab lb cb)) :
    Code.wp Tryd.prog (tail7 2) (Q7 w) ⟨#[u0, u1, .int .i64 N, .pointer (some ⟨g3, 0, none⟩), .pointer (some ⟨g4, 0, none⟩), u5, u6, .bool true, u8, u9, u10, u11, u12, u13, u14, u15, u16, u17, u18, u19, u20, u21, u22, u23, u24, u25, u26, u27, u28, u29, u30, u31, u32, u33, u34, u35, u36, u37, u38, u39, u40, u41, u42, u43, u44, u45, u46, u47, u48, u49, u50, u51, u52, u53, u54, u55, u56, u57, u58, u59, u60, u61, u62, u63, u64, u65, u66, u67, u68, u69, u70, u71, u72, u73, u74, u75, u76, u77, u78, u79, u80, u81, u82, u83, u84, u85, u86, u87, u88, u89, u90, u91, u92, u93, u94, u95, u96, u97, u98, u99, u100, u101, u102], []⟩ wr := by
  obtain ⟨kpa0, kpa1, _, _⟩ := two_cells pa
  show Code.wp Tryd.prog (Code.seq (head7 2) (tail7 3)) _ _ _
  conv => arg 2; arg 1; whnf
  go_wp2_with fail
  refine (ofR na aa la ca A _ (rA.keep hb) (by omega)).mono ?_
  rintro e w2 ⟨nx, xo, xl, xc, rfl, hl, bnew, hb2⟩
  go_wp2
  have hb3 := hb.trans (hb2.mono hb.size)
  exact PW_3 (rA) (rB) (sA) (sB) (hva) (hvb) (hN1) (hN2) (by omega) (hb3.alloc hb3.size _) ((pa.keep hb2).alloc _) ((pb.keep hb2).alloc _) (Pr.new _ _ _ _) ((bnew.cast hva.out).alloc _)

set_option maxRecDepth 100000 in
set_option maxHeartbeats 2000000 in
theorem powers_yes {na : Bool} {aa : Option Addr} {la ca : Nat} {A : List Nat} {nb : Bool} {ab : Option Addr} {lb cb : Nat} {B : List Nat} {N : Int} (w : World) (hA : Rd w aa la ca A) (sA : la ≤ 1048576) (hB : Rd w ab lb cb B) (sB : lb ≤ 1048576) (hN1 : -9223372036854775808 ≤ N) (hN2 : N ≤ 9223372036854775807) :
    Calls Tryd.prog 7 #[.agg #[.bool na, .slice aa la ca], .agg #[.bool nb, .slice ab lb cb], .int .i64 N] w fun e w' => e = .returned (.bool true) ∧ Below w.heap.size w w' := by
  obtain ⟨X0, Y0, hb, -⟩ := new2 (w := w) (o1 := .cells #[.bool na, .slice aa la ca] 24) (o2 := .cells #[.bool nb, .slice ab lb cb] 24) rfl
  have X1 := hid X0
  have Y1 := hid Y0
  clear X0 Y0
  go_enter Tryd.func7, Tryd.ntmps7
  change Code.wp Tryd.prog (Code.seq (head7 0) (tail7 1)) (Q7 w) _ _
  conv => arg 2; arg 1; whnf
  go_wp2
  show Code.wp Tryd.prog (Code.seq (head7 1) (tail7 2)) _ _ _
  conv => arg 2; arg 1; whnf
  go_wp2_with fail
  refine (awake_yes _).mono ?_
  rintro e w2 ⟨rfl, hb2⟩
  go_wp2
  exact PW_2 hA hB sA sB (hid rfl) (hid rfl) hN1 hN2 (hb.trans (hb2.mono hb.size)) (heap_keep X1.out hb2) (heap_keep Y1.out hb2)

end Go.Proofs.YtldafoojkimdeaaDoor

namespace Go.Proofs.YtldafoojkimdeaaDoor
open Go.ChangeShapes Go.WideShapes Go.ChangeAt Go.RowKit Go.Joins Lm

theorem powers_params : ∀ t ∈ Tryd.f7.params.toList, Tryd.prog.readableRec t = true ∧ t < Tryd.prog.types.size := by
  intro t ht
  rw [Tryd.params7] at ht
  simp at ht
  rcases ht with rfl | rfl
  · exact reads24
  · exact reads3

set_option maxRecDepth 100000 in
theorem powers_contract (H : Type) (enc : TypeId × Value → H) (W : World) (base : Nat) (args : Array Value) (ds gs : List (DataW H)) (before : List MemPlace)
    (hval : ∀ (j : Nat) t v, Tryd.f7.params[j]? = some t → args[j]? = some v → Value.okWide Tryd.prog W .any base t v)
    (hW : DataW.Whole enc Tryd.prog Tryd.f7.params.toList Rows.bigintPowersSpec.vars false W args.toList ds gs before)
    (hsz : (DataW.weightsEach Tryd.prog (Tryd.f7.params.toList ++ (OpenSpec.ofChange Rows.bigintPowersSpec).bare.plain.varTypes Tryd.prog) (ds ++ gs)).all (· ≤ reachBytes) = true) (hk : Rows.uptoBulkAll (ds ++ gs) ≤ 1048576) :
    Calls Tryd.prog 7 args W fun e W' => ∃ v, e = .returned v ∧ Rows.bigintPowersSpec.post enc Tryd.prog Tryd.f7 false true false false W args v W' := by
  have hW' := hW
  obtain ⟨p, q, hA0, hV, rfl, hfz, hnd⟩ := hW
  have hA : DataW.TrodAll enc Tryd.prog W 0 (fun _ => true) true Tryd.f7.params.toList args.toList ds p := hA0
  rw [Tryd.params7] at hA hval hsz
  obtain ⟨v0, vs0, d0, ds0, p0, q0, hargs, rfl, rfl, h0, r0⟩ := trodAll_cons hA
  obtain ⟨v1, vs1, d1, ds1, p1, q1, rfl, rfl, rfl, h1, r1⟩ := trodAll_cons r0
  obtain ⟨v2, vs2, d2, ds2, p2, q2, rfl, rfl, rfl, h2, r2⟩ := trodAll_cons r1
  obtain ⟨rfl, rfl, rfl⟩ := trodAll_nil r2
  obtain rfl : args = #[v0, v1, v2] := by cases args; simp_all
  obtain ⟨n0, a0, l0, c0, A0, rfl, w0, s0, z0⟩ := open_num2 rfl hsz (j := 0) rfl rfl (hval 0 24 v0 rfl rfl) h0 hk
  obtain ⟨n1, a1, l1, c1, A1, rfl, w1, s1, z1⟩ := open_num2 rfl hsz (j := 1) rfl rfl (hval 1 24 v1 rfl rfl) h1 hk
  obtain ⟨x2, rfl, rfl, rfl, wf2⟩ := open_int Tryd.underlying3 (hval 2 3 v2 rfl rfl) h2
  have w2 := bounds_i64 wf2
  refine (powers_yes W w0 s0 w1 s1 w2.1 w2.2).mono fun e W' ⟨he, hb⟩ => ⟨_, he, ?_⟩
  exact law_post powers_params rfl rfl rfl rfl rfl hW' hb

/-- The world of the witness. -/
noncomputable def powersWorld (os : Os) : World := World.laidAll Tryd.prog os Rows.bigintPowersUptoRow.laid
noncomputable def powersArgs : Array Value := #[.agg #[.bool false, .slice none 0 0], .agg #[.bool false, .slice none 0 0], .int .i64 0]
set_option maxRecDepth 100000 in
theorem powers_laid (os : Os) : laidMet Tryd.prog Rows.bigintPowersUptoRow.laid ((powersWorld os).forCall (fun _ _ => 0) ⟨#[], powersArgs, []⟩).memory :=
  laidMet_laidAll _ (by kernel_rfl) (by kernel_rfl)
set_option maxRecDepth 100000 in
theorem powers_reads (os : Os) {H : Type} (enc : TypeId × Value → H) : ∃ places, DataW.whole enc Tryd.prog ((powersWorld os).forCall (fun _ _ => 0) ⟨#[], powersArgs, []⟩).memory Tryd.f7.params.toList Rows.bigintPowersSpec.vars false powersArgs.toList 8 =
    some ([.agg [.lit (.bool false), .nil], .agg [.lit (.bool false), .nil], .lit (.int .i64 0)], [], places) :=
  ⟨[], by kernel_rfl⟩

set_option maxRecDepth 100000 in
theorem powers_lifted (os : Os) (started : os.Started) (H : Type) (enc : TypeId × Value → H) (F : Stop.Interp) :
    ReturnsInHanded {} Tryd.checked os 7 .any ((Rows.OpenSpec.upto Rows.bigintPowersSpec).preRow enc Tryd.prog Tryd.f7 Rows.bigintPowersUptoRow.domain false Rows.bigintPowersUptoRow.laid) (((Rows.OpenSpec.upto Rows.bigintPowersSpec).at F).post enc Tryd.prog Tryd.f7 false true false false) := by
  obtain ⟨places, hx⟩ := powers_reads os enc
  refine returnsInHanded_of_row (C := Tryd.checked) (s := Rows.OpenSpec.upto Rows.bigintPowersSpec) own started (by kernel_rfl) Tryd.func7
    (witness_row_at (enc := enc) (C := Tryd.checked) false (powersWorld os) powersArgs (World.laidAll_os _ _ _) (by kernel_rfl) (by kernel_rfl) (by kernel_rfl)
      (OpenSpec.preRow_of_cond 8 hx (by kernel_rfl) (fun k hk => by cases hk; kernel_rfl) (by kernel_rfl) (powers_laid os))) ?_
  intro W base args ds gs before hval hW _ hcond hsz hL _ _
  exact powers_contract H enc W base args ds gs before hval hW hsz (of_decide_eq_true (hcond _ rfl))

set_option maxRecDepth 100000 in
theorem powers_said : Rows.BigintPowersUptoSaid :=
  OpenClaim.holds_of_cond 7 Tryd.f7 rfl rfl rfl rfl rfl rfl rfl ⟨rfl, rfl, rfl, rfl, rfl⟩ rfl rfl rfl rfl rfl (by kernel_rfl) Tryd.func7 (by kernel_rfl)
    (of_decide_eq_true (by kernel_rfl)) (by unfold Func.isWrapper; first | (rw [if_pos (by decide +kernel)]; kernel_rfl) | (rw [if_neg (by decide +kernel)]; exact ⟨rfl, rfl⟩))
    (fun os started H enc _ F => by rw [OpenClaim.pre_eq_preRow]; exact powers_lifted os started H enc F)

set_option maxRecDepth 100000 in
theorem powers_plain (f : FuncId) (fn : Func) (hf : Tryd.pinned.checked.prog.funcNamed "hornbeam/hornbeamlaw01.BigintPowers" = some f) (hfn : Tryd.pinned.checked.prog.funcs[f]? = some fn) :
    false = Tryd.pinned.checked.prog.looks [] ∧ ∀ (j : Nat) t, fn.params[j]? = some t → Tryd.pinned.checked.prog.wantsStandIn t = false := by
  obtain rfl : f = 7 := Option.some.inj ((show Tryd.prog.funcNamed "hornbeam/hornbeamlaw01.BigintPowers" = some 7 by kernel_rfl).symm.trans hf) |>.symm
  obtain rfl : fn = Tryd.f7 := (Option.some.inj (Tryd.func7.symm.trans hfn)).symm
  refine ⟨by kernel_rfl, fun j t ht => ?_⟩
  rw [Tryd.params7] at ht
  have hm := Array.mem_of_getElem? ht
  simp at hm
  rcases hm with rfl | rfl
  · exact (show Tryd.prog.wantsStandIn 24 = false by kernel_rfl)
  · exact (show Tryd.prog.wantsStandIn 3 = false by kernel_rfl)

set_option maxRecDepth 100000 in
theorem powers_card : Rows.BigintPowersUptoCardSaid :=
  Claim7.holds_tied_plain_at .later [] _ _ _ _ powers_said (fun _ h => by cases h) (by kernel_rfl) (fun _ h => by cases h) bigintPowersUpto_row_tie rfl ⟨rfl, rfl⟩ (by kernel_rfl) rfl powers_plain (by kernel_rfl)
end Go.Proofs.YtldafoojkimdeaaDoor
