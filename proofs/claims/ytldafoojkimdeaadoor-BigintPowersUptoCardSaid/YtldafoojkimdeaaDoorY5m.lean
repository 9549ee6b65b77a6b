/- Gcd, Pow and Shift of the program where something is wrong; Shift far downwards. No condition but those that each theorem names. Answers of the program in the form that the laws ask, kept and refused. No condition but those that each theorem names. Gcd, Pow and Shift of the program in the form that the law asks. No condition but those that each theorem names. -/
import Derived.Test.YtldafoojkimdeaaDoorW60m
import Derived.Test.YtldafoojkimdeaaDoorRefdm
namespace Go.Proofs.YtldafoojkimdeaaDoor
open Go.RowKit Lm

set_option maxRecDepth 100000 in
set_option maxHeartbeats 2000000 in
theorem shiftFloor_far (neg : Bool) (aa : Option Addr) (la ca : Nat) (A : List Nat) (m : Nat) (N : Int) (w : World) (hA : Rd w aa la ca A) (hsa : la ≤ 300) (hm : Hid (m = 4096)) (hN : N ≤ -4096) :
    Calls Tryd.prog 96 #[.bool neg, .slice aa la ca, .int .i64 N] w fun e w' => ∃ n' ao' len' c, e = .returned (.tuple #[.agg #[.bool n', .slice ao' len' len'], .int .i64 c]) ∧ Fits w w' n' ao' len' c (num neg A / (2 : Int) ^ m) ∧ Below w.heap.size w w' := by
  have hmm : m ≤ 4096 := by have := hm.out; omega
  have hmax : max N (-4096) = -(m : Int) := by have := hm.out; omega
  have hA1 := hA.alloc (.cells #[.bool false, .slice none 0 0] 24)
  have H0 := hid (heap_alloc_new w (.cells #[.bool false, .slice none 0 0] 24))
  have hb0 : Below w.heap.size w (w.alloc (.cells #[.bool false, .slice none 0 0] 24)) := (Below.refl _ _).alloc (Nat.le_refl _) _
  have hs0 : w.heap.size < (w.alloc (.cells #[.bool false, .slice none 0 0] 24)).heap.size := by simp
  have arm := fun (S : List Nat) (so : Option Addr) (sl sc : Nat) (nn : Bool) (wx : World) (h : Rd wx so sl sc S) => fit_any nn so sl sc S wx h
  cases neg with
  | false =>
    go_enter Tryd.func96, Tryd.ntmps96
    go_wp2_with (first
      | (go_at_call 110; refine (shiftDown_any _ _ _ A m _ hA1 (by omega) (by omega)).mono ?_; rintro e w1 ⟨so, sl, sc, bl1, rfl, ⟨S, hS, hv, hsl, hl⟩, hb1⟩; have HV := hid (floor_num_pos A S m hv); clear hv hl; have H1 := hid (heap_keep H0.out hb1))
      | (go_at_call 78; refine (fit_any _ _ _ _ S _ hS).mono ?_; rintro e w3 ⟨n', ao', len', c, rfl, hfit, hb3⟩; obtain ⟨c0, c1, f0, f1⟩ := two_cells (heap_keep H1.out hb3)))
    rw [HV.out] at hfit
    have hbx : Below w.heap.size w w1 := hb0.trans (hb1.mono (Nat.le_of_lt hs0))
    refine bodyPost_ret (v := .tuple #[.agg #[.bool n', .slice ao' len' len'], .int .i64 c]) (by simp [results, Tryd.results96, go_sem, c0, c1]) rfl ⟨_, _, _, _, rfl, ?_, ?_⟩
    · exact hfit.set2 hbx.size (Nat.lt_of_lt_of_le hs0 hb1.size) (Nat.lt_of_lt_of_le hs0 hb1.size) _ _
    · exact ((hbx.trans (hb3.mono hbx.size)).setCell (Nat.le_refl _) _).setCell (Nat.le_refl _) _
  | true =>
    go_enter Tryd.func96, Tryd.ntmps96
    go_wp2_with (go_at_call 110; refine (shiftDown_any _ _ _ A m _ hA1 (by omega) (by omega)).mono ?_; rintro e w1 ⟨so, sl, sc, bl1, rfl, ⟨S, hS, hv, hsl, hl⟩, hb1⟩; have HV := hid hv; have HL := hid hl; clear hv hl; have H1 := hid (heap_keep H0.out hb1); cases bl1)
    · have hz : val A % 2 ^ m = 0 := by
        rcases Nat.eq_zero_or_pos (val A % 2 ^ m) with h | h
        · exact h
        · exact absurd (HL.out.2 (by omega)) (by first | decide | simp)
      have HN := hid (floor_num_neg A S m hz HV.out)
      clear hz
      go_wp2_with (go_at_call 78; refine (fit_any _ _ _ _ S _ hS).mono ?_; rintro e w3 ⟨n', ao', len', c, rfl, hfit, hb3⟩; obtain ⟨c0, c1, f0, f1⟩ := two_cells (heap_keep H1.out hb3))
      rw [HN.out] at hfit
      have hbx : Below w.heap.size w w1 := hb0.trans (hb1.mono (Nat.le_of_lt hs0))
      refine bodyPost_ret (v := .tuple #[.agg #[.bool n', .slice ao' len' len'], .int .i64 c]) (by simp [results, Tryd.results96, go_sem, c0, c1]) rfl ⟨_, _, _, _, rfl, ?_, ?_⟩
      · exact hfit.set2 hbx.size (Nat.lt_of_lt_of_le hs0 hb1.size) (Nat.lt_of_lt_of_le hs0 hb1.size) _ _
      · exact ((hbx.trans (hb3.mono hbx.size)).setCell (Nat.le_refl _) _).setCell (Nat.le_refl _) _
    · have hz : val A % 2 ^ m ≠ 0 := HL.out.1 (by first | rfl | trivial)
      have HZ := hid hz
      clear hz
      go_wp2_with (first
        | (go_at_call 70; refine (limbsOf_one _).mono ?_; rintro e w2 ⟨gl, rfl, hgl, hL1, hb2⟩; have hS2 := hS.keep hb2; have H2 := hid (heap_keep H1.out hb2); have hL1' := (show Rd w2 (some ⟨gl, 0, none⟩) 2 2 [1, 0] from hL1.whole ok_one 2 (by simp) (by omega)))
        | (go_at_call 84; refine (sum_any _ _ _ S _ _ _ [1, 0] _ hS2 hL1' (by omega) (by omega)).mono ?_; rintro e w4 ⟨gs, T, rfl, hgs, hT, hTl, hTo, hTv, hb4⟩; have HN := hid (floor_num_lost A T m HZ.out (by rw [hTv, HV.out]; simp [val])); have hTr := hT.whole hTo T.length (Nat.le_refl _) (by omega); clear hTv hTl; have H4 := hid (heap_keep H2.out hb4))
        | (go_at_call 78; refine (fit_any _ _ _ _ T _ hTr).mono ?_; rintro e w3 ⟨n', ao', len', c, rfl, hfit, hb3⟩; obtain ⟨c0, c1, f0, f1⟩ := two_cells (heap_keep H4.out hb3)))
      rw [HN.out] at hfit
      have hbx : Below w.heap.size w w1 := hb0.trans (hb1.mono (Nat.le_of_lt hs0))
      have hbz : Below w.heap.size w w2 := hbx.trans (hb2.mono hbx.size)
      have hby : Below w.heap.size w w4 := hbz.trans (hb4.mono hbz.size)
      have hlt : w.heap.size < w4.heap.size := Nat.lt_of_lt_of_le hs0 (Nat.le_trans hb1.size (Nat.le_trans hb2.size hb4.size))
      refine bodyPost_ret (v := .tuple #[.agg #[.bool n', .slice ao' len' len'], .int .i64 c]) (by simp [results, Tryd.results96, go_sem, c0, c1]) rfl ⟨_, _, _, _, rfl, ?_, ?_⟩
      · exact hfit.set2 hby.size hlt hlt _ _
      · exact ((hby.trans (hb3.mono hby.size)).setCell (Nat.le_refl _) _).setCell (Nat.le_refl _) _
set_option maxRecDepth 100000 in
set_option maxHeartbeats 2000000 in
theorem shift_deep (na : Bool) (aa : Option Addr) (la ca : Nat) (A : List Nat) (m : Nat) (N : Int) (w : World) (hA : Rd w aa la ca A) (hbad : tooLong A = false) (h0 : val A ≠ 0) (hm : Hid (m = 4096)) (hN : N ≤ -4096) :
    Calls Tryd.prog 53 #[.agg #[.bool na, .slice aa la ca], .int .i64 N] w fun e w' => ∃ n' ao' len' c, e = .returned (.tuple #[.agg #[.bool n', .slice ao' len' len'], .int .i64 c]) ∧ Fits w w' n' ao' len' c (num na A / (2 : Int) ^ m) ∧ Below w.heap.size w w' := by
  have hsA := small_len A hbad
  have htl : 0 < (tl A).length := by
    rcases Nat.eq_zero_or_pos (tl A).length with h | h
    · have e := List.eq_nil_of_length_eq_zero h
      rw [← tl_val, e] at h0; exact absurd rfl h0
    · exact h
  have hnv := hid (num_tl na A)
  have hneg : N < 0 := by omega
  go_enter Tryd.func53, Tryd.ntmps53
  go_wp2_with (first
    | (go_at_call 77; refine (long1_any _ na aa la ca A _ (((hA.alloc _).alloc _).alloc _) (by simp [go_sem]) (by simp [go_sem])).mono ?_; rintro e w1 ⟨rfl, hb1⟩; rw [hbad]; obtain ⟨p1, p2, _, hbw⟩ := hp3 _ _ _ _ hb1; obtain ⟨a0, a1, _, _⟩ := two_cells p1; have P2 := hid p2; have hA1 := hA.keep hbw)
    | (go_at_call 71; refine (trim_any _ _ _ A _ hA1).mono ?_; rintro e w5 ⟨rfl, rfl⟩)
    | (go_at_call 96; refine (shiftFloor_far na aa (tl A).length ca (tl A) m N _ hA1.tl (by omega) hm hN).mono ?_; rintro e w3 ⟨n', ao', len', c, rfl, hfit, hb3⟩; obtain ⟨c0, c1, f0, f1⟩ := two_cells (heap_keep P2.out hb3)))
  have hs1 := lt_of_block P2.out
  rw [hnv.out] at hfit
  refine bodyPost_ret (v := .tuple #[.agg #[.bool n', .slice ao' len' len'], .int .i64 c]) (by simp [results, Tryd.results53, go_sem, c0, c1]) rfl ⟨_, _, _, _, rfl, ?_, ?_⟩
  · exact hfit.set2 hbw.size hs1 hs1 _ _
  · exact ((hbw.trans (hb3.mono hbw.size)).setCell (by simp) _).setCell (by simp) _


theorem div_deep_of {v : Int} {m k : Nat} (hv : bl v.natAbs ≤ m) (hk : m ≤ k) : v / (2 : Int) ^ m = v / (2 : Int) ^ k := by
  have h1 := (bl_le _ _).1 hv
  have h2 : 2 ^ m ≤ 2 ^ k := Nat.pow_le_pow_right (by decide) hk
  have h3 := Nat.two_pow_pos m
  have e1 : (2 : Int) ^ m = ((2 ^ m : Nat) : Int) := by rw [Int.natCast_pow]; rfl
  have e2 : (2 : Int) ^ k = ((2 ^ k : Nat) : Int) := by rw [Int.natCast_pow]; rfl
  rw [e1, e2]
  generalize (2 ^ m : Nat) = p at *
  generalize (2 ^ k : Nat) = q at *
  by_cases h0 : 0 ≤ v
  · rw [Int.ediv_eq_zero_of_lt h0 (by omega), Int.ediv_eq_zero_of_lt h0 (by omega)]
  · have hm : ∀ x : Nat, v.natAbs < x → v / (x : Int) = -1 := by
      intro x hx
      apply Int.le_antisymm
      · have := Int.ediv_neg_of_neg_of_pos (a := v) (b := (x : Int)) (by omega) (by omega)
        omega
      · rw [Int.le_ediv_iff_mul_le (by omega)]; omega
    rw [hm p h1, hm q (by omega)]
theorem div_deep {v : Int} {k : Nat} (hv : bl v.natAbs ≤ 4096) (hk : 4096 ≤ k) : v / (2 : Int) ^ 4096 = v / (2 : Int) ^ k := div_deep_of hv hk

set_option maxRecDepth 100000 in
set_option maxHeartbeats 2000000 in
theorem shift_bad (na : Bool) (aa : Option Addr) (la ca : Nat) (A : List Nat) (N : Int) (w : World) (hA : Rd w aa la ca A) (hbad : tooLong A = true) :
    Calls Tryd.prog 53 #[.agg #[.bool na, .slice aa la ca], .int .i64 N] w fun e w' => e = .returned (.tuple #[.agg #[.bool false, .slice none 0 0], .int .i64 10]) ∧ Below w.heap.size w w' := by
  go_enter Tryd.func53, Tryd.ntmps53
  go_wp2_with (go_at_call 77; refine (long1_any _ na aa la ca A _ (((hA.alloc _).alloc _).alloc _) (by simp [go_sem]) (by simp [go_sem])).mono ?_; rintro e w1 ⟨rfl, hb1⟩; rw [hbad]; obtain ⟨p1, p2, _, hbw⟩ := hp3 _ _ _ _ hb1; obtain ⟨c0, c1, f0, f1⟩ := two_cells p2)
  refine bodyPost_ret (v := .tuple #[.agg #[.bool false, .slice none 0 0], .int .i64 10]) (by simp [results, Tryd.results53, go_sem, c0, c1]) rfl ⟨rfl, ?_⟩
  exact (hbw.setCell (by simp) _).setCell (by simp) _

set_option maxRecDepth 100000 in
set_option maxHeartbeats 2000000 in
theorem pow_bad (na : Bool) (aa : Option Addr) (la ca : Nat) (A : List Nat) (N : Int) (w : World) (hA : Rd w aa la ca A) (hbad : tooLong A = true) :
    Calls Tryd.prog 52 #[.agg #[.bool na, .slice aa la ca], .int .i64 N] w fun e w' => e = .returned (.tuple #[.agg #[.bool false, .slice none 0 0], .int .i64 10]) ∧ Below w.heap.size w w' := by
  go_enter Tryd.func52, Tryd.ntmps52
  go_wp2_with (go_at_call 77; refine (long1_any _ na aa la ca A _ (((hA.alloc _).alloc _).alloc _) (by simp [go_sem]) (by simp [go_sem])).mono ?_; rintro e w1 ⟨rfl, hb1⟩; rw [hbad]; obtain ⟨p1, p2, _, hbw⟩ := hp3 _ _ _ _ hb1; obtain ⟨c0, c1, f0, f1⟩ := two_cells p2)
  refine bodyPost_ret (v := .tuple #[.agg #[.bool false, .slice none 0 0], .int .i64 10]) (by simp [results, Tryd.results52, go_sem, c0, c1]) rfl ⟨rfl, ?_⟩
  exact (hbw.setCell (by simp) _).setCell (by simp) _

set_option maxRecDepth 100000 in
set_option maxHeartbeats 2000000 in
theorem pow_neg (na : Bool) (aa : Option Addr) (la ca : Nat) (A : List Nat) (N : Int) (w : World) (hA : Rd w aa la ca A) (hbad : tooLong A = false) (hN : N < 0) :
    Calls Tryd.prog 52 #[.agg #[.bool na, .slice aa la ca], .int .i64 N] w fun e w' => e = .returned (.tuple #[.agg #[.bool false, .slice none 0 0], .int .i64 15]) ∧ Below w.heap.size w w' := by
  go_enter Tryd.func52, Tryd.ntmps52
  go_wp2_with (go_at_call 77; refine (long1_any _ na aa la ca A _ (((hA.alloc _).alloc _).alloc _) (by simp [go_sem]) (by simp [go_sem])).mono ?_; rintro e w1 ⟨rfl, hb1⟩; rw [hbad]; obtain ⟨p1, p2, _, hbw⟩ := hp3 _ _ _ _ hb1; obtain ⟨c0, c1, f0, f1⟩ := two_cells p2)
  refine bodyPost_ret (v := .tuple #[.agg #[.bool false, .slice none 0 0], .int .i64 15]) (by simp [results, Tryd.results52, go_sem, c0, c1]) rfl ⟨rfl, ?_⟩
  exact (hbw.setCell (by simp) _).setCell (by simp) _

set_option maxRecDepth 100000 in
set_option maxHeartbeats 2000000 in
theorem gcd_bad (na : Bool) (aa : Option Addr) (la ca : Nat) (A : List Nat) (nb : Bool) (ab : Option Addr) (lb cb : Nat) (B : List Nat) (w : World) (hA : Rd w aa la ca A) (hB : Rd w ab lb cb B) (hbad : (tooLong A || tooLong B) = true) :
    Calls Tryd.prog 51 #[.agg #[.bool na, .slice aa la ca], .agg #[.bool nb, .slice ab lb cb]] w fun e w' => e = .returned (.tuple #[.agg #[.bool false, .slice none 0 0], .int .i64 10]) ∧ Below w.heap.size w w' := by
  go_enter Tryd.func51, Tryd.ntmps51
  go_wp2_with (go_at_call 77; refine (long2_any _ na aa la ca A nb ab lb cb B _ ((((hA.alloc _).alloc _).alloc _).alloc _) ((((hB.alloc _).alloc _).alloc _).alloc _) (by simp [go_sem]) (by simp [go_sem]) (by simp [go_sem]) (by simp [go_sem])).mono ?_; rintro e w1 ⟨rfl, hb1⟩; rw [hbad]; obtain ⟨p1, p2, p3, hbw⟩ := hp4 _ _ _ _ _ hb1; obtain ⟨c0, c1, f0, f1⟩ := two_cells p3)
  refine bodyPost_ret (v := .tuple #[.agg #[.bool false, .slice none 0 0], .int .i64 10]) (by simp [results, Tryd.results51, go_sem, c0, c1]) rfl ⟨rfl, ?_⟩
  exact (hbw.setCell (by show w.heap.size ≤ w.heap.size + 1 + 1; omega) _).setCell (by show w.heap.size ≤ w.heap.size + 1 + 1; omega) _

end Go.Proofs.YtldafoojkimdeaaDoor

namespace Go.Proofs.YtldafoojkimdeaaDoor
open Go.RowKit Lm

theorem AnsO.fits {B : Nat} {w w' : World} {n : Bool} {ao : Option Addr} {len : Nat} {c e v : Int} (h : Fits w w' n ao len c v) (he : e = 0) (hB : B ≤ w.heap.size) : AnsO B w w' n ao len c e v := by
  rcases h with ⟨h1, rfl, hN⟩ | ⟨h1, rfl, rfl, rfl, rfl⟩
  · exact ⟨.inr ⟨he, .inl ⟨h1, rfl, hN.mono hB⟩⟩, fun a e => (hN.own a e).symm⟩
  · exact ⟨.inr ⟨he, .inr ⟨h1, rfl, rfl, rfl, rfl⟩⟩, fun a e => by cases e⟩
theorem AnsO.refused {B : Nat} {w w' : World} {e v : Int} (h : e ≠ 0) : AnsO B w w' false none 0 e e v := ⟨.inl ⟨h, rfl, rfl, rfl, rfl⟩, fun a ha => by cases ha⟩
theorem AnsE.long {B : Nat} {w : World} {n : Bool} {ao : Option Addr} {len : Nat} {c v : Int} (h : AnsE B w n ao len c 0 v) (hl : 4096 < bl v.natAbs) : AnsE B w n ao len c 10 v := by
  rcases h with ⟨h0, _⟩ | ⟨_, ⟨h1, _⟩ | ⟨_, rfl, rfl, rfl, rfl⟩⟩
  · exact absurd rfl h0
  · omega
  · exact .inl ⟨by decide, rfl, rfl, rfl, rfl⟩
theorem AnsE.keep {B : Nat} {w w' : World} {n : Bool} {ao : Option Addr} {len : Nat} {c e v : Int} (h : AnsE B w n ao len c e v) (hb : Below w.heap.size w w') : AnsE B w' n ao len c e v := by
  rcases h with h | ⟨h0, ⟨h1, h2, hN⟩ | h⟩
  · exact .inl h
  · exact .inr ⟨h0, .inl ⟨h1, h2, hN.keep hb⟩⟩
  · exact .inr ⟨h0, .inr h⟩
end Go.Proofs.YtldafoojkimdeaaDoor

namespace Go.Proofs.YtldafoojkimdeaaDoor
open Go.RowKit Lm

theorem gcdE {B0 : Nat} {na : Bool} {aa : Option Addr} {la ca : Nat} {A : List Nat} {nb : Bool} {ab : Option Addr} {lb cb : Nat} {B : List Nat} {va vb e : Int} {w : World} (hA : Rd w aa la ca A) (hB : Rd w ab lb cb B) (ea : num na A = va) (eb : num nb B = vb) (he : e = if tooLong A || tooLong B then 10 else 0) (h0 : B0 ≤ w.heap.size) :
    Calls Tryd.prog 51 #[.agg #[.bool na, .slice aa la ca], .agg #[.bool nb, .slice ab lb cb]] w fun r w' => ∃ n ao len c, r = .returned (.tuple #[.agg #[.bool n, .slice ao len len], .int .i64 c]) ∧ AnsO B0 w w' n ao len c e (gcdi va vb) ∧ Below w.heap.size w w' := by
  cases hbad : (tooLong A || tooLong B) with
  | true =>
    rw [hbad] at he
    refine (gcd_bad na aa la ca A nb ab lb cb B w hA hB hbad).mono ?_
    rintro r w' ⟨rfl, hb⟩
    exact ⟨_, _, _, _, rfl, by rw [he]; exact AnsO.refused (by decide), hb⟩
  | false =>
    rw [hbad] at he
    refine (gcd_good na aa la ca A nb ab lb cb B w hA hB hbad).mono ?_
    rintro r w' ⟨n', ao', len', c, rfl, hf, hb⟩
    rw [val_of_num ea, val_of_num eb] at hf
    exact ⟨_, _, _, _, rfl, AnsO.fits hf he h0, hb⟩

/-- What Pow answers. -/
def powv (v n : Int) : Int := v ^ n.toNat
theorem powE {B0 : Nat} {na : Bool} {aa : Option Addr} {la ca : Nat} {A : List Nat} {va e N : Int} {w : World} (hA : Rd w aa la ca A) (ea : num na A = va) (hN : N ≤ 9223372036854775807) (he : e = if tooLong A then 10 else if N < 0 then 15 else 0) (h0 : B0 ≤ w.heap.size) :
    Calls Tryd.prog 52 #[.agg #[.bool na, .slice aa la ca], .int .i64 N] w fun r w' => ∃ n ao len c, r = .returned (.tuple #[.agg #[.bool n, .slice ao len len], .int .i64 c]) ∧ AnsO B0 w w' n ao len c e (powv va N) ∧ Below w.heap.size w w' := by
  cases hbad : tooLong A with
  | true =>
    rw [hbad] at he
    refine (pow_bad na aa la ca A N w hA hbad).mono ?_
    rintro r w' ⟨rfl, hb⟩
    exact ⟨_, _, _, _, rfl, by rw [he]; exact AnsO.refused (by decide), hb⟩
  | false =>
    rw [hbad] at he
    by_cases hn : N < 0
    · refine (pow_neg na aa la ca A N w hA hbad hn).mono ?_
      rintro r w' ⟨rfl, hb⟩
      refine ⟨_, _, _, _, rfl, ?_, hb⟩
      rw [he, if_pos hn]; exact AnsO.refused (by decide)
    · obtain ⟨k, rfl⟩ : ∃ k : Nat, N = (k : Int) := ⟨N.toNat, by omega⟩
      refine (pow_good na aa la ca A k w hA (by omega) hbad).mono ?_
      rintro r w' ⟨n', ao', len', c, rfl, hf, hb⟩
      rw [ea] at hf
      refine ⟨_, _, _, _, rfl, AnsO.fits ?_ (by rw [he, if_neg hn]; rfl) h0, hb⟩
      unfold powv; rw [Int.toNat_natCast]; exact hf

/-- What Shift answers. -/
def shv (v n : Int) : Int := if 0 ≤ n then v * (2 : Int) ^ n.toNat else v / (2 : Int) ^ (-n).toNat
theorem shv_zero (n : Int) : shv 0 n = 0 := by unfold shv; split <;> simp
/-- The error of Shift. -/
def shbad (v n : Int) : Int := if 4096 < bl v.natAbs then 10 else if v = 0 then 0 else if 4096 < n then 10 else 0
theorem tooLong_num {n : Bool} {A : List Nat} {v : Int} (h : num n A = v) : tooLong A = decide (4096 < bl v.natAbs) := by
  subst h; unfold tooLong; rw [num_abs]
theorem shiftE {B0 : Nat} {na : Bool} {aa : Option Addr} {la ca : Nat} {A : List Nat} {va e N : Int} {w : World} (hA : Rd w aa la ca A) (ea : num na A = va) (hN1 : -9223372036854775808 ≤ N) (hN : N ≤ 9223372036854775807) (he : e = shbad va N) (h0 : B0 ≤ w.heap.size) :
    Calls Tryd.prog 53 #[.agg #[.bool na, .slice aa la ca], .int .i64 N] w fun r w' => ∃ n ao len c, r = .returned (.tuple #[.agg #[.bool n, .slice ao len len], .int .i64 c]) ∧ AnsO B0 w w' n ao len c e (shv va N) ∧ Below w.heap.size w w' := by
  have htl := tooLong_num ea
  have hval := val_of_num ea
  by_cases hl : 4096 < bl va.natAbs
  · rw [decide_eq_true hl] at htl
    refine (shift_bad na aa la ca A N w hA htl).mono ?_
    rintro r w' ⟨rfl, hb⟩
    refine ⟨_, _, _, _, rfl, ?_, hb⟩
    rw [he]; unfold shbad; rw [if_pos hl]; exact AnsO.refused (by decide)
  · rw [decide_eq_false hl] at htl
    by_cases hz : va = 0
    · have he0 : e = 0 := by rw [he]; unfold shbad; rw [if_neg hl, if_pos hz]
      refine (shift_zero na aa la ca A N w hA htl (by rw [hval, hz]; rfl)).mono ?_
      rintro r w' ⟨rfl, hb⟩
      refine ⟨_, _, _, _, rfl, AnsO.fits (fits_zero _ _ _ ?_) he0 h0, hb⟩
      rw [hz, shv_zero]
    · have hv0 : val A ≠ 0 := by rw [hval]; omega
      by_cases hN0 : 0 ≤ N
      · obtain ⟨k, rfl⟩ : ∃ k : Nat, N = (k : Int) := ⟨N.toNat, by omega⟩
        have hs : shv va (k : Int) = va * (2 : Int) ^ k := by unfold shv; rw [if_pos hN0, Int.toNat_natCast]
        rw [hs]
        refine (shift_up_any na aa la ca A k w hA htl (by omega)).mono ?_
        rintro r w' ⟨n', ao', len', c, rfl, hf, hb⟩
        rw [ea] at hf
        refine ⟨_, _, _, _, rfl, ?_, hb⟩
        by_cases hk : 4096 < (k : Int)
        · have he10 : e = 10 := by rw [he]; unfold shbad; rw [if_neg hl, if_neg hz, if_pos hk]
          have hbl : 4096 < bl (va * (2 : Int) ^ k).natAbs := by
            have e1 : (va * (2 : Int) ^ k).natAbs = val A * 2 ^ k := by rw [Int.natAbs_mul, ← hval, Int.natAbs_pow]; rfl
            rw [e1, bl_mul_pow _ _ hv0]; omega
          rcases hf with ⟨h1, _⟩ | ⟨_, rfl, rfl, rfl, rfl⟩
          · omega
          · rw [he10]; exact AnsO.refused (by decide)
        · exact AnsO.fits hf (by rw [he]; unfold shbad; rw [if_neg hl, if_neg hz, if_neg hk]) h0
      · obtain ⟨k, hk⟩ : ∃ k : Nat, N = -(k : Int) := ⟨(-N).toNat, by omega⟩
        have he0 : e = 0 := by rw [he]; unfold shbad; rw [if_neg hl, if_neg hz, if_neg (by omega)]
        have hs : shv va N = va / (2 : Int) ^ k := by unfold shv; rw [if_neg hN0, show (-N).toNat = k by omega]
        rw [hs]
        by_cases hd : k ≤ 4096
        · subst hk
          refine (shift_down_any na aa la ca A k w hA htl hd).mono ?_
          rintro r w' ⟨n', ao', len', c, rfl, hf, hb⟩
          rw [ea] at hf
          exact ⟨_, _, _, _, rfl, AnsO.fits hf he0 h0, hb⟩
        · refine (shift_deep na aa la ca A 4096 N w hA htl hv0 (hid rfl) (by omega)).mono ?_
          rintro r w' ⟨n', ao', len', c, rfl, hf, hb⟩
          rw [ea, div_deep (by omega) (show 4096 ≤ k by omega)] at hf
          exact ⟨_, _, _, _, rfl, AnsO.fits hf he0 h0, hb⟩
end Go.Proofs.YtldafoojkimdeaaDoor
