/- Walks: Gcd where nothing is too long. Walks: shiftFloor, Shift where nothing is too long. Walks: Shift where nothing is too long. The calls of the law BigintShifts where nothing is too long, and what their answers say. -/
import Derived.Test.YtldafoojkimdeaaDoorW51m
import Derived.Test.YtldafoojkimdeaaDoorW12
import Derived.Test.YtldafoojkimdeaaDoorW23m
import Derived.Test.YtldafoojkimdeaaDoorW48
import Derived.Test.YtldafoojkimdeaaDoorW24
import Derived.Test.YtldafoojkimdeaaDoorW52
namespace Go.Proofs.YtldafoojkimdeaaDoor
open Go.RowKit Lm

theorem Rd.same {w : World} {ao : Option Addr} {len cap : Nat} {Y Z : List Nat} (h : Rd w ao len cap Y) (k : Rd w ao len cap Z) : Y = Z := by
  have hl : Y.length = Z.length := by rw [h.size, k.size]
  have hd : ∀ i, i < len → dg Y i = dg Z i := by
    intro i hi
    obtain ⟨b, off, e, hc⟩ := h.cells (by omega)
    obtain ⟨b', off', e', hc'⟩ := k.cells (by omega)
    rw [e] at e'
    simp only [Option.some.injEq, Addr.mk.injEq, and_true] at e'
    obtain ⟨e1, e2⟩ := e'
    subst e1 e2
    have := (hc i hi).symm.trans (hc' i hi)
    simp only [Option.some.injEq, Value.int.injEq, true_and] at this
    omega
  refine List.ext_getElem hl ?_
  intro i h1 h2
  have := hd i (by rw [← h.size]; exact h1)
  unfold dg at this
  rw [getD_in _ _ h1, getD_in _ _ h2] at this
  exact this
/-- The number that a slice stands for. -/
noncomputable def rval (y : Value) (w : World) : Nat :=
  match y with
  | .slice ao len cap => by
    classical
    exact if h : ∃ Y, Rd w ao len cap Y then val (Classical.choose h) else 0
  | _ => 0
theorem rval_eq {w : World} {ao : Option Addr} {len cap : Nat} {Y : List Nat} (h : Rd w ao len cap Y) : rval (.slice ao len cap) w = val Y := by
  have hx : ∃ Y, Rd w ao len cap Y := ⟨Y, h⟩
  unfold rval
  simp only
  rw [dif_pos hx, (Classical.choose_spec hx).same h]

theorem gcd_step {x y q r : Nat} (h : x = q * y + r) (hr : r < y) : Nat.gcd y r = Nat.gcd x y := by
  have e : r = x % y := by rw [h, Nat.mul_comm, Nat.mul_add_mod, Nat.mod_eq_of_lt hr]
  rw [e, Nat.gcd_comm x y, Nat.gcd_rec y x, Nat.gcd_comm]

set_option maxRecDepth 100000 in
set_option maxHeartbeats 4000000 in
theorem gcd_good (na : Bool) (aa : Option Addr) (la ca : Nat) (A : List Nat) (nb : Bool) (ab : Option Addr) (lb cb : Nat) (B : List Nat) (w : World) (hA : Rd w aa la ca A) (hB : Rd w ab lb cb B) (hbad : (tooLong A || tooLong B) = false) :
    Calls Tryd.prog 51 #[.agg #[.bool na, .slice aa la ca], .agg #[.bool nb, .slice ab lb cb]] w fun e w' => ∃ n' ao' len' c, e = .returned (.tuple #[.agg #[.bool n', .slice ao' len' len'], .int .i64 c]) ∧ Fits w w' n' ao' len' c ((Nat.gcd (val A) (val B) : Nat) : Int) ∧ Below w.heap.size w w' := by
  have hsA := small_len A (by simp at hbad; exact hbad.1)
  have hsB := small_len B (by simp at hbad; exact hbad.2)
  have HG := hid (show Nat.gcd (val (tl A)) (val (tl B)) = Nat.gcd (val A) (val B) by rw [tl_val, tl_val])
  go_enter Tryd.func51, Tryd.ntmps51
  go_wp2_with (go_at_call 77; refine (long2_any _ na aa la ca A nb ab lb cb B _ ((((hA.alloc _).alloc _).alloc _).alloc _) ((((hB.alloc _).alloc _).alloc _).alloc _) (by simp [go_sem]) (by simp [go_sem]) (by simp [go_sem]) (by simp [go_sem])).mono ?_; rintro e w1 ⟨rfl, hb1⟩; rw [hbad]; obtain ⟨p1, p2, p3, hbw⟩ := hp4 _ _ _ _ _ hb1; obtain ⟨a0, a1, _, _⟩ := two_cells p1; obtain ⟨b0, b1, _, _⟩ := two_cells p2; have hA1 := hA.keep hbw; have hB1 := hB.keep hbw)
  clear hbad
  have hlt1 : w.heap.size + 4 ≤ w1.heap.size := by have := hb1.size; simp at this ⊢; omega
  have HP3 := hid p3
  clear hb1 p1 p2 p3
  go_region_held3 (fun w' => w'.cell? ⟨w.heap.size, 1, none⟩ = some (.slice aa la ca) ∧ w'.cell? ⟨w.heap.size + 1, 1, none⟩ = some (.slice ab lb cb)) (refine ⟨?_, ?_⟩ <;> first | assumption | (simp [go_sem]; assumption))
    (first
      | (go_at_call_of 71 (Value.slice aa la ca); refine (trim_any _ _ _ A _ ?_).mono ?_; (first | exact hA1 | exact hA1.drew); rintro e w5 ⟨rfl, rfl⟩)
      | (go_at_call_of 71 (Value.slice ab lb cb); refine (trim_any _ _ _ B _ ?_).mono ?_; (first | exact hB1 | exact hB1.drew); rintro e w5 ⟨rfl, rfl⟩))
  have hA2 := hA1.tl.drew
  have hB2 := hB1.tl.drew
  have HP4 : Hid (w1.drew.heap[w.heap.size + 2]? = some (.cells #[.bool false, .slice none 0 0] 24 (0, 0))) := HP3
  have hbd : Below w.heap.size w w1.drew := hbw.drew
  have tA := tl_top A
  have tB := tl_top B
  clear HP3 hA1 hB1 hbw a0 a1 b0 b1
  generalize w1.drew = wd at *
  go_wp2_with fail
  go_loopw [6, 7] (fun x y wr => ∃ xo xl xc X yo yl yc Y, x = .slice xo xl xc ∧ y = .slice yo yl yc ∧ Rd wr xo xl xc X ∧ Rd wr yo yl yc Y ∧ Top X ∧ Top Y ∧ xl ≤ 300 ∧ yl ≤ 300 ∧ Hid (Nat.gcd (val X) (val Y) = Nat.gcd (val A) (val B)) ∧
      Hid (wr.heap[w.heap.size + 2]? = some (.cells #[.bool false, .slice none 0 0] 24 (0, 0))) ∧ Below w.heap.size w wr) (fun _ y wr => rval y wr)
  case atStart => exact ⟨_, _, _, tl A, _, _, _, tl B, rfl, rfl, hA2, hB2, tA, tB, by omega, by omega, HG, HP4, hbd⟩
  case round =>
    obtain ⟨xo, xl, xc, X, yo, yl, yc, Y, rfl, rfl, hX, hY, tX, tY, hxl, hyl, hg, hP, hB3⟩ := hrel
    clear hA2 hB2 HP4 hbd tA tB
    by_cases hz : 0 < yl
    · have hY0 : 0 < val Y := by
        rcases Nat.eq_zero_or_pos (val Y) with h | h
        · have e := top_zero tY h
          have := hY.size
          rw [e] at this; simp at this; omega
        · exact h
      have HY0 := hid hY0
      clear hY0
      go_wp2_with (first
        | (go_at_call 94; refine (divide_full _ _ _ X _ _ _ Y _ hX hY tX tY hxl hyl HY0.out).mono ?_; rintro e w5 ⟨qo, ql, qc, ro, rl, rc, rfl, ⟨Q, R, hQ, hR, hv, hlt, hql, hrl⟩, hb5⟩; have HV := hid hv; have HLT := hid hlt; clear hv hlt)
        | (go_at_call 71; refine (trim_any _ _ _ R _ hR).mono ?_; rintro e w6 ⟨rfl, rfl⟩))
      have hY5 := hY.keep hb5
      have hP5 := hid (heap_keep hP.out hb5)
      have hB5 := hB3.trans (hb5.mono hB3.size)
      have hrl2 : (tl R).length ≤ 300 := by have h1 := tl_length_le R; have h2 := hR.size; omega
      have hgs := hid (gcd_step HV.out HLT.out)
      go_roundw
      case rel => exact ⟨_, _, _, Y, _, _, _, tl R, rfl, rfl, hY5, hR.tl, tY, tl_top R, hyl, hrl2, hid (by rw [tl_val, hgs.out, hg.out]), hP5, hB5⟩
      case measure =>
        rw [rval_eq hR.tl, rval_eq hY, tl_val]
        exact HLT.out
    · have hYn : Y = [] := List.eq_nil_of_length_eq_zero (by rw [hY.size]; omega)
      have hgv : num false X = ((Nat.gcd (val A) (val B) : Nat) : Int) := by
        have := hg.out
        rw [hYn, val_nil, Nat.gcd_zero_right] at this
        unfold num; simp [this]
      have HGV := hid hgv
      clear hgv
      go_wp2_with (go_at_call 78; refine (fit_any _ _ _ _ X _ hX).mono ?_; rintro e w3 ⟨n', ao', len', c, rfl, hfit, hb3⟩; obtain ⟨c0, c1, f0, f1⟩ := two_cells (heap_keep hP.out hb3))
      rw [HGV.out] at hfit
      have hs := lt_of_block hP.out
      refine bodyPost_ret (v := .tuple #[.agg #[.bool n', .slice ao' len' len'], .int .i64 c]) (by simp [results, Tryd.results51, go_sem, c0, c1]) rfl ⟨_, _, _, _, rfl, ?_, ?_⟩
      · exact hfit.set2 (by omega) (by show w.heap.size + 1 + 1 < _; omega) (by show w.heap.size + 1 + 1 < _; omega) _ _
      · exact ((hB3.trans (hb3.mono hB3.size)).setCell (by show w.heap.size ≤ w.heap.size + 1 + 1; omega) _).setCell (by show w.heap.size ≤ w.heap.size + 1 + 1; omega) _
end Go.Proofs.YtldafoojkimdeaaDoor

namespace Go.Proofs.YtldafoojkimdeaaDoor
open Go.RowKit Lm

theorem ediv_neg_nat (a p : Nat) (hp : 0 < p) : (-(a : Int)) / (p : Int) = if a % p = 0 then -((a / p : Nat) : Int) else -((a / p + 1 : Nat) : Int) := by
  have e := Nat.div_add_mod a p
  have hm := Nat.mod_lt a hp
  have e2 : (a : Int) = (p : Int) * ((a / p : Nat) : Int) + ((a % p : Nat) : Int) := by rw [← Int.natCast_mul, ← Int.natCast_add, e]
  generalize a / p = q at *
  generalize a % p = r at *
  have hpi : (p : Int) ≠ 0 := by omega
  by_cases h : r = 0
  · rw [if_pos h, e2, h]
    rw [show -((p : Int) * (q : Int) + ((0 : Nat) : Int)) = (p : Int) * (-(q : Int)) by rw [Int.mul_neg]; omega]
    exact Int.mul_ediv_cancel_left _ hpi
  · rw [if_neg h, e2]
    rw [show -((p : Int) * (q : Int) + (r : Int)) = ((p : Int) - (r : Int)) + (p : Int) * (-((q + 1 : Nat) : Int)) by rw [Int.mul_neg, Int.natCast_add, Int.mul_add]; omega]
    rw [Int.add_mul_ediv_left _ _ hpi, Int.ediv_eq_zero_of_lt (by omega) (by omega)]
    omega
theorem floor_num_pos (A S : List Nat) (m : Nat) (h : val S = val A / 2 ^ m) : num false S = num false A / (2 : Int) ^ m := by
  unfold num
  simp only [Bool.false_eq_true, if_false]
  rw [h]
  simp
theorem floor_num_neg (A S : List Nat) (m : Nat) (hb : val A % 2 ^ m = 0) (h : val S = val A / 2 ^ m) : num true S = num true A / (2 : Int) ^ m := by
  have e := ediv_neg_nat (val A) (2 ^ m) (Nat.two_pow_pos m)
  rw [if_pos hb] at e
  unfold num
  simp only [if_true]
  rw [h, ← e]; simp
theorem floor_num_lost (A S : List Nat) (m : Nat) (hb : val A % 2 ^ m ≠ 0) (h : val S = val A / 2 ^ m + 1) : num true S = num true A / (2 : Int) ^ m := by
  have e := ediv_neg_nat (val A) (2 ^ m) (Nat.two_pow_pos m)
  rw [if_neg hb] at e
  unfold num
  simp only [if_true]
  rw [h, ← e]; simp

set_option maxRecDepth 100000 in
set_option maxHeartbeats 2000000 in
theorem shiftFloor_any (neg : Bool) (aa : Option Addr) (la ca : Nat) (A : List Nat) (m : Nat) (w : World) (hA : Rd w aa la ca A) (hsa : la ≤ 300) (hm : m ≤ 4096) :
    Calls Tryd.prog 96 #[.bool neg, .slice aa la ca, .int .i64 (-(m : Int))] w fun e w' => ∃ n' ao' len' c, e = .returned (.tuple #[.agg #[.bool n', .slice ao' len' len'], .int .i64 c]) ∧ Fits w w' n' ao' len' c (num neg A / (2 : Int) ^ m) ∧ Below w.heap.size w w' := by
  have hmax : max (-(m : Int)) (-4096) = -(m : Int) := by omega
  have hA1 := hA.alloc (.cells #[.bool false, .slice none 0 0] 24)
  have H0 := hid (heap_alloc_new w (.cells #[.bool false, .slice none 0 0] 24))
  have hb0 : Below w.heap.size w (w.alloc (.cells #[.bool false, .slice none 0 0] 24)) := (Below.refl _ _).alloc (Nat.le_refl _) _
  have hs0 : w.heap.size < (w.alloc (.cells #[.bool false, .slice none 0 0] 24)).heap.size := by simp
  have arm := fun (S : List Nat) (so : Option Addr) (sl sc : Nat) (nn : Bool) (wx : World) (h : Rd wx so sl sc S) => fit_any nn so sl sc S wx h
  cases neg with
  | false =>
    go_enter Tryd.func96, Tryd.ntmps96
    go_wp2_with (first
      | (go_at_call 110; refine (shiftDown_any _ _ _ A m _ hA1 (by omega) (by omega)).mono ?_; rintro e w1 ⟨so, sl, sc, bl1, rfl, ⟨S, hS, hv, hsl, hl⟩, hb1⟩; have HV := hid (floor_num_pos A S m hv); clear hv hl; have H1 := hid (heap_keep H0.out hb1))
      | (go_at_call 78; refine (fit_any _ _ _ _ S _ hS).mono ?_; rintro e w3 ⟨n', ao', len', c, rfl, hfit, hb3⟩; obtain ⟨c0, c1, f0, f1⟩ := two_cells (heap_keep H1.out hb3)))
    rw [HV.out] at hfit
    have hbx : Below w.heap.size w w1 := hb0.trans (hb1.mono (Nat.le_of_lt hs0))
    refine bodyPost_ret (v := .tuple #[.agg #[.bool n', .slice ao' len' len'], .int .i64 c]) (by simp [results, Tryd.results96, go_sem, c0, c1]) rfl ⟨_, _, _, _, rfl, ?_, ?_⟩
    · exact hfit.set2 hbx.size (Nat.lt_of_lt_of_le hs0 hb1.size) (Nat.lt_of_lt_of_le hs0 hb1.size) _ _
    · exact ((hbx.trans (hb3.mono hbx.size)).setCell (Nat.le_refl _) _).setCell (Nat.le_refl _) _
  | true =>
    go_enter Tryd.func96, Tryd.ntmps96
    go_wp2_with (go_at_call 110; refine (shiftDown_any _ _ _ A m _ hA1 (by omega) (by omega)).mono ?_; rintro e w1 ⟨so, sl, sc, bl1, rfl, ⟨S, hS, hv, hsl, hl⟩, hb1⟩; have HV := hid hv; have HL := hid hl; clear hv hl; have H1 := hid (heap_keep H0.out hb1); cases bl1)
    · have hz : val A % 2 ^ m = 0 := by
        rcases Nat.eq_zero_or_pos (val A % 2 ^ m) with h | h
        · exact h
        · exact absurd (HL.out.2 (by omega)) (by first | decide | simp)
      have HN := hid (floor_num_neg A S m hz HV.out)
      clear hz
      go_wp2_with (go_at_call 78; refine (fit_any _ _ _ _ S _ hS).mono ?_; rintro e w3 ⟨n', ao', len', c, rfl, hfit, hb3⟩; obtain ⟨c0, c1, f0, f1⟩ := two_cells (heap_keep H1.out hb3))
      rw [HN.out] at hfit
      have hbx : Below w.heap.size w w1 := hb0.trans (hb1.mono (Nat.le_of_lt hs0))
      refine bodyPost_ret (v := .tuple #[.agg #[.bool n', .slice ao' len' len'], .int .i64 c]) (by simp [results, Tryd.results96, go_sem, c0, c1]) rfl ⟨_, _, _, _, rfl, ?_, ?_⟩
      · exact hfit.set2 hbx.size (Nat.lt_of_lt_of_le hs0 hb1.size) (Nat.lt_of_lt_of_le hs0 hb1.size) _ _
      · exact ((hbx.trans (hb3.mono hbx.size)).setCell (Nat.le_refl _) _).setCell (Nat.le_refl _) _
    · have hz : val A % 2 ^ m ≠ 0 := HL.out.1 (by first | rfl | trivial)
      have HZ := hid hz
      clear hz
      go_wp2_with (first
        | (go_at_call 70; refine (limbsOf_one _).mono ?_; rintro e w2 ⟨gl, rfl, hgl, hL1, hb2⟩; have hS2 := hS.keep hb2; have H2 := hid (heap_keep H1.out hb2); have hL1' := (show Rd w2 (some ⟨gl, 0, none⟩) 2 2 [1, 0] from hL1.whole ok_one 2 (by simp) (by omega)))
        | (go_at_call 84; refine (sum_any _ _ _ S _ _ _ [1, 0] _ hS2 hL1' (by omega) (by omega)).mono ?_; rintro e w4 ⟨gs, T, rfl, hgs, hT, hTl, hTo, hTv, hb4⟩; have HN := hid (floor_num_lost A T m HZ.out (by rw [hTv, HV.out]; simp [val])); have hTr := hT.whole hTo T.length (Nat.le_refl _) (by omega); clear hTv hTl; have H4 := hid (heap_keep H2.out hb4))
        | (go_at_call 78; refine (fit_any _ _ _ _ T _ hTr).mono ?_; rintro e w3 ⟨n', ao', len', c, rfl, hfit, hb3⟩; obtain ⟨c0, c1, f0, f1⟩ := two_cells (heap_keep H4.out hb3)))
      rw [HN.out] at hfit
      have hbx : Below w.heap.size w w1 := hb0.trans (hb1.mono (Nat.le_of_lt hs0))
      have hbz : Below w.heap.size w w2 := hbx.trans (hb2.mono hbx.size)
      have hby : Below w.heap.size w w4 := hbz.trans (hb4.mono hbz.size)
      have hlt : w.heap.size < w4.heap.size := Nat.lt_of_lt_of_le hs0 (Nat.le_trans hb1.size (Nat.le_trans hb2.size hb4.size))
      refine bodyPost_ret (v := .tuple #[.agg #[.bool n', .slice ao' len' len'], .int .i64 c]) (by simp [results, Tryd.results96, go_sem, c0, c1]) rfl ⟨_, _, _, _, rfl, ?_, ?_⟩
      · exact hfit.set2 hby.size hlt hlt _ _
      · exact ((hby.trans (hb3.mono hby.size)).setCell (Nat.le_refl _) _).setCell (Nat.le_refl _) _
end Go.Proofs.YtldafoojkimdeaaDoor

namespace Go.Proofs.YtldafoojkimdeaaDoor
open Go.RowKit Lm

theorem bl_mul_pow (x m : Nat) (hx : x ≠ 0) : bl (x * 2 ^ m) = bl x + m := by
  have h1 := (bl_le x (bl x)).1 (Nat.le_refl _)
  have h2 : ¬ x < 2 ^ (bl x - 1) := by
    intro h
    have h3 := (bl_le x (bl x - 1)).2 h
    have h4 : ¬ bl x ≤ 0 := by rw [bl_le]; simp; exact hx
    omega
  have h4 : 0 < bl x := by
    rcases Nat.eq_zero_or_pos (bl x) with h | h
    · have := (bl_le x 0).1 (by omega); simp at this; exact absurd this hx
    · exact h
  have hp : 2 ^ bl x = 2 * 2 ^ (bl x - 1) := by
    conv => lhs; rw [show bl x = (bl x - 1) + 1 by omega, Nat.pow_succ]
    omega
  have hq : 0 < 2 ^ m := Nat.two_pow_pos m
  refine bl_unique ?_ ?_
  · rw [Nat.pow_add]; exact Nat.mul_lt_mul_of_pos_right h1 hq
  · rw [Nat.pow_add, ← Nat.mul_assoc]
    exact Nat.mul_le_mul_right _ (by omega)
theorem num_pow (n : Bool) (A L : List Nat) (m : Nat) (h : val L = val A * 2 ^ m) : num n L = num n A * (2 : Int) ^ m := by
  unfold num; rw [h]
  cases n <;> simp [Int.natCast_mul, Int.neg_mul]

set_option maxRecDepth 100000 in
set_option maxHeartbeats 2000000 in
theorem shift_zero (na : Bool) (aa : Option Addr) (la ca : Nat) (A : List Nat) (n : Int) (w : World) (hA : Rd w aa la ca A) (hbad : tooLong A = false) (h0 : val A = 0) :
    Calls Tryd.prog 53 #[.agg #[.bool na, .slice aa la ca], .int .i64 n] w fun e w' => e = .returned (.tuple #[.agg #[.bool false, .slice none 0 0], .int .i64 0]) ∧ Below w.heap.size w w' := by
  have htl : (tl A).length = 0 := by have := top_zero (tl_top A) (by rw [tl_val]; exact h0); rw [this]; rfl
  go_enter Tryd.func53, Tryd.ntmps53
  go_wp2_with (first
    | (go_at_call 77; refine (long1_any _ na aa la ca A _ (((hA.alloc _).alloc _).alloc _) (by simp [go_sem]) (by simp [go_sem])).mono ?_; rintro e w1 ⟨rfl, hb1⟩; rw [hbad]; obtain ⟨p1, p2, _, hbw⟩ := hp3 _ _ _ _ hb1; obtain ⟨a0, a1, _, _⟩ := two_cells p1; obtain ⟨c0, c1, f0, f1⟩ := two_cells p2; have hA1 := hA.keep hbw)
    | (go_at_call 71; refine (trim_any _ _ _ A _ hA1).mono ?_; rintro e w5 ⟨rfl, rfl⟩; rw [htl]))
  refine bodyPost_ret (v := .tuple #[.agg #[.bool false, .slice none 0 0], .int .i64 0]) (by simp [results, Tryd.results53, go_sem, c0, c1]) rfl ⟨rfl, ?_⟩
  exact (hbw.setCell (by simp) _).setCell (by simp) _

set_option maxRecDepth 100000 in
set_option maxHeartbeats 2000000 in
theorem shift_long (na : Bool) (aa : Option Addr) (la ca : Nat) (A : List Nat) (m : Nat) (w : World) (hA : Rd w aa la ca A) (hbad : tooLong A = false) (h0 : val A ≠ 0) (hm : 4096 < bl (val A) + m) (hm2 : m ≤ 9223372036854775807) :
    Calls Tryd.prog 53 #[.agg #[.bool na, .slice aa la ca], .int .i64 (m : Int)] w fun e w' => e = .returned (.tuple #[.agg #[.bool false, .slice none 0 0], .int .i64 10]) ∧ Below w.heap.size w w' := by
  have htl : 0 < (tl A).length := by
    rcases Nat.eq_zero_or_pos (tl A).length with h | h
    · have e := List.eq_nil_of_length_eq_zero h
      rw [← tl_val, e] at h0; exact absurd rfl h0
    · exact h
  have hbl : bl (val (tl A)) = bl (val A) := by rw [tl_val]
  have hb4 : bl (val A) ≤ 4096 := by unfold tooLong at hbad; simpa using hbad
  go_enter Tryd.func53, Tryd.ntmps53
  go_wp2_with (first
    | (go_at_call 77; refine (long1_any _ na aa la ca A _ (((hA.alloc _).alloc _).alloc _) (by simp [go_sem]) (by simp [go_sem])).mono ?_; rintro e w1 ⟨rfl, hb1⟩; rw [hbad]; obtain ⟨p1, p2, _, hbw⟩ := hp3 _ _ _ _ hb1; obtain ⟨a0, a1, _, _⟩ := two_cells p1; obtain ⟨c0, c1, f0, f1⟩ := two_cells p2; have hA1 := hA.keep hbw)
    | (go_at_call 71; refine (trim_any _ _ _ A _ hA1).mono ?_; rintro e w5 ⟨rfl, rfl⟩)
    | (go_at_call 75; refine (bitsOf_any _ _ _ (tl A) _ hA1.tl (tl_top A)).mono ?_; rintro e w5 ⟨rfl, rfl⟩; rw [hbl]))
  refine bodyPost_ret (v := .tuple #[.agg #[.bool false, .slice none 0 0], .int .i64 10]) (by simp [results, Tryd.results53, go_sem, c0, c1]) rfl ⟨rfl, ?_⟩
  exact (hbw.setCell (by simp) _).setCell (by simp) _

set_option maxRecDepth 100000 in
set_option maxHeartbeats 2000000 in
theorem shift_fits (na : Bool) (aa : Option Addr) (la ca : Nat) (A : List Nat) (m : Nat) (w : World) (hA : Rd w aa la ca A) (hbad : tooLong A = false) (h0 : val A ≠ 0) (hm : bl (val A) + m ≤ 4096) :
    Calls Tryd.prog 53 #[.agg #[.bool na, .slice aa la ca], .int .i64 (m : Int)] w fun e w' => ∃ n' ao' len' c, e = .returned (.tuple #[.agg #[.bool n', .slice ao' len' len'], .int .i64 c]) ∧ Fits w w' n' ao' len' c (num na A * (2 : Int) ^ m) ∧ Below w.heap.size w w' := by
  have hsA := small_len A hbad
  have htl : 0 < (tl A).length := by
    rcases Nat.eq_zero_or_pos (tl A).length with h | h
    · have e := List.eq_nil_of_length_eq_zero h
      rw [← tl_val, e] at h0; exact absurd rfl h0
    · exact h
  have hbl : bl (val (tl A)) = bl (val A) := by rw [tl_val]
  have hvA := hid (tl_val A)
  go_enter Tryd.func53, Tryd.ntmps53
  go_wp2_with (first
    | (go_at_call 77; refine (long1_any _ na aa la ca A _ (((hA.alloc _).alloc _).alloc _) (by simp [go_sem]) (by simp [go_sem])).mono ?_; rintro e w1 ⟨rfl, hb1⟩; rw [hbad]; obtain ⟨p1, p2, _, hbw⟩ := hp3 _ _ _ _ hb1; obtain ⟨a0, a1, _, _⟩ := two_cells p1; have P2 := hid p2; have hA1 := hA.keep hbw)
    | (go_at_call 71; refine (trim_any _ _ _ A _ hA1).mono ?_; rintro e w5 ⟨rfl, rfl⟩)
    | (go_at_call 75; refine (bitsOf_any _ _ _ (tl A) _ hA1.tl (tl_top A)).mono ?_; rintro e w5 ⟨rfl, rfl⟩; rw [hbl]))
  have hs1 := lt_of_block P2.out
  clear hb1 p1 p2
  have a0d := show w1.drew.cell? ⟨w.heap.size, 0, none⟩ = _ from a0
  go_region_held3 (fun w' => w'.cell? ⟨w.heap.size, 0, none⟩ = some (.bool na)) (first | (with_reducible exact a0) | (with_reducible exact a0d) | (with_reducible exact a02) | (with_reducible exact a03) | (simp [go_sem, a03]; done))
    (first
      | (go_at_call 97; (with_reducible refine (shiftUp_any aa (tl A).length ca (tl A) m w1.drew hA1.tl.drew (by omega) (by omega)).mono ?_); rintro e w2 ⟨g, L, rfl, hg, hR, hLl, hok, hval, hb2⟩; have HL := hid hLl; have HV := hid (num_pow na A L m (by rw [hval, hvA.out])); have hLs : L.length ≤ 5000 := (by omega); clear hLl hval; have a02 := cell_keep a0 (undrew hb2); have Q2 := hid (heap_keep P2.out (undrew hb2)))
      | (go_at_call 78; refine (fit_any _ _ _ _ L _ (hR.whole hok L.length (Nat.le_refl _) (by omega))).mono ?_; rintro e w3 ⟨n', ao', len', c, rfl, hfit, hb3⟩; have a03 := cell_keep a02 hb3; obtain ⟨c0, c1, f0, f1⟩ := two_cells (heap_keep Q2.out hb3)))
  rw [HV.out] at hfit
  have hx : Below w.heap.size w w2 := hbw.trans ((undrew hb2).mono hbw.size)
  have hs2 := (undrew hb2).size
  go_wp2
  refine bodyPost_ret (v := .tuple #[.agg #[.bool n', .slice ao' len' len'], .int .i64 c]) (by simp [results, Tryd.results53, go_sem, c0, c1]) rfl ⟨_, _, _, _, rfl, ?_, ?_⟩
  · exact hfit.set2 hx.size (show w.heap.size + 1 < w2.heap.size by omega) (show w.heap.size + 1 < w2.heap.size by omega) _ _
  · exact ((hx.trans (hb3.mono hx.size)).setCell (by simp) _).setCell (by simp) _

set_option maxRecDepth 100000 in
set_option maxHeartbeats 2000000 in
theorem shift_down (na : Bool) (aa : Option Addr) (la ca : Nat) (A : List Nat) (m : Nat) (w : World) (hA : Rd w aa la ca A) (hbad : tooLong A = false) (h0 : val A ≠ 0) (hm0 : 0 < m) (hm : m ≤ 4096) :
    Calls Tryd.prog 53 #[.agg #[.bool na, .slice aa la ca], .int .i64 (-(m : Int))] w fun e w' => ∃ n' ao' len' c, e = .returned (.tuple #[.agg #[.bool n', .slice ao' len' len'], .int .i64 c]) ∧ Fits w w' n' ao' len' c (num na A / (2 : Int) ^ m) ∧ Below w.heap.size w w' := by
  have hsA := small_len A hbad
  have htl : 0 < (tl A).length := by
    rcases Nat.eq_zero_or_pos (tl A).length with h | h
    · have e := List.eq_nil_of_length_eq_zero h
      rw [← tl_val, e] at h0; exact absurd rfl h0
    · exact h
  have hnv := hid (num_tl na A)
  have hneg : -(m : Int) < 0 := by omega
  go_enter Tryd.func53, Tryd.ntmps53
  go_wp2_with (first
    | (go_at_call 77; refine (long1_any _ na aa la ca A _ (((hA.alloc _).alloc _).alloc _) (by simp [go_sem]) (by simp [go_sem])).mono ?_; rintro e w1 ⟨rfl, hb1⟩; rw [hbad]; obtain ⟨p1, p2, _, hbw⟩ := hp3 _ _ _ _ hb1; obtain ⟨a0, a1, _, _⟩ := two_cells p1; have P2 := hid p2; have hA1 := hA.keep hbw)
    | (go_at_call 71; refine (trim_any _ _ _ A _ hA1).mono ?_; rintro e w5 ⟨rfl, rfl⟩)
    | (go_at_call 96; refine (shiftFloor_any na aa (tl A).length ca (tl A) m _ hA1.tl (by omega) hm).mono ?_; rintro e w3 ⟨n', ao', len', c, rfl, hfit, hb3⟩; obtain ⟨c0, c1, f0, f1⟩ := two_cells (heap_keep P2.out hb3)))
  have hs1 := lt_of_block P2.out
  rw [hnv.out] at hfit
  refine bodyPost_ret (v := .tuple #[.agg #[.bool n', .slice ao' len' len'], .int .i64 c]) (by simp [results, Tryd.results53, go_sem, c0, c1]) rfl ⟨_, _, _, _, rfl, ?_, ?_⟩
  · exact hfit.set2 hbw.size hs1 hs1 _ _
  · exact ((hbw.trans (hb3.mono hbw.size)).setCell (by simp) _).setCell (by simp) _

theorem bl_zero : bl 0 ≤ 4096 := by have := (bl_le 0 0).2 (by simp); omega
theorem fits_zero (w w' : World) (v : Int) (h : v = 0) : Fits w w' false none 0 0 v := by
  subst h; exact .inl ⟨bl_zero, rfl, Num.zero _ _⟩
theorem num_zero_of {n : Bool} {A : List Nat} (h : val A = 0) : num n A = 0 := by unfold num; rw [h]; cases n <;> rfl

theorem shift_up_any (na : Bool) (aa : Option Addr) (la ca : Nat) (A : List Nat) (m : Nat) (w : World) (hA : Rd w aa la ca A) (hbad : tooLong A = false) (hm : m ≤ 9223372036854775807) :
    Calls Tryd.prog 53 #[.agg #[.bool na, .slice aa la ca], .int .i64 (m : Int)] w fun e w' => ∃ n' ao' len' c, e = .returned (.tuple #[.agg #[.bool n', .slice ao' len' len'], .int .i64 c]) ∧ Fits w w' n' ao' len' c (num na A * (2 : Int) ^ m) ∧ Below w.heap.size w w' := by
  by_cases h0 : val A = 0
  · refine (shift_zero na aa la ca A m w hA hbad h0).mono ?_
    rintro e w' ⟨rfl, hb⟩
    exact ⟨_, _, _, _, rfl, fits_zero _ _ _ (by rw [num_zero_of h0, Int.zero_mul]), hb⟩
  · by_cases hl : 4096 < bl (val A) + m
    · refine (shift_long na aa la ca A m w hA hbad h0 hl hm).mono ?_
      rintro e w' ⟨rfl, hb⟩
      refine ⟨_, _, _, _, rfl, .inr ⟨?_, rfl, rfl, rfl, rfl⟩, hb⟩
      have e : (num na A * (2 : Int) ^ m).natAbs = val A * 2 ^ m := by rw [Int.natAbs_mul, num_abs, Int.natAbs_pow]; rfl
      rw [e, bl_mul_pow _ _ h0]; exact hl
    · exact shift_fits na aa la ca A m w hA hbad h0 (by omega)
theorem shift_down_any (na : Bool) (aa : Option Addr) (la ca : Nat) (A : List Nat) (m : Nat) (w : World) (hA : Rd w aa la ca A) (hbad : tooLong A = false) (hm : m ≤ 4096) :
    Calls Tryd.prog 53 #[.agg #[.bool na, .slice aa la ca], .int .i64 (-(m : Int))] w fun e w' => ∃ n' ao' len' c, e = .returned (.tuple #[.agg #[.bool n', .slice ao' len' len'], .int .i64 c]) ∧ Fits w w' n' ao' len' c (num na A / (2 : Int) ^ m) ∧ Below w.heap.size w w' := by
  by_cases h0 : val A = 0
  · refine (shift_zero na aa la ca A _ w hA hbad h0).mono ?_
    rintro e w' ⟨rfl, hb⟩
    exact ⟨_, _, _, _, rfl, fits_zero _ _ _ (by rw [num_zero_of h0, Int.zero_ediv]), hb⟩
  · rcases Nat.eq_zero_or_pos m with h | h
    · subst h
      have := shift_up_any na aa la ca A 0 w hA hbad (by omega)
      simpa using this
    · exact shift_down na aa la ca A m w hA hbad h0 h hm
end Go.Proofs.YtldafoojkimdeaaDoor

namespace Go.Proofs.YtldafoojkimdeaaDoor
open Go.RowKit Lm

theorem pow_ne (r : Nat) : (2 : Int) ^ r ≠ 0 := by
  have h : ((2 ^ r : Nat) : Int) ≠ 0 := by have := Nat.two_pow_pos r; omega
  simpa using h
theorem shift_up_ok {na : Bool} {aa : Option Addr} {la ca : Nat} {A : List Nat} {va : Int} (m : Nat) (w : World) (hA : Rd w aa la ca A) (ea : num na A = va) (sa : Sm va) (sr : Sm (va * (2 : Int) ^ m)) (hm : m ≤ 4096) :
    Calls Tryd.prog 53 #[.agg #[.bool na, .slice aa la ca], .int .i64 (m : Int)] w fun e w' => ∃ n' ao' len' C, e = .returned (.tuple #[.agg #[.bool n', .slice ao' len' len'], .int .i64 0]) ∧ Rd w' ao' len' len' C ∧ num n' C = va * (2 : Int) ^ m ∧ Below w.heap.size w w' := by
  refine (shift_up_any na aa la ca A m w hA (sa.short ea) (by omega)).mono ?_
  rintro e w' ⟨n', ao', len', c, rfl, hf, hb⟩
  rw [ea] at hf
  obtain ⟨rfl, C, h1, h2⟩ := hf.read sr
  exact ⟨n', ao', len', C, rfl, h1, h2, hb⟩
theorem shift_three_ok {na : Bool} {aa : Option Addr} {la ca : Nat} {A : List Nat} {va : Int} (w : World) (hA : Rd w aa la ca A) (ea : num na A = va) (sa : Sm va) (sr : Sm (va * 8)) :
    Calls Tryd.prog 53 #[.agg #[.bool na, .slice aa la ca], .int .i64 3] w fun e w' => ∃ n' ao' len' C, e = .returned (.tuple #[.agg #[.bool n', .slice ao' len' len'], .int .i64 0]) ∧ Rd w' ao' len' len' C ∧ num n' C = va * 8 ∧ Below w.heap.size w w' :=
  shift_up_ok 3 w hA ea sa sr (by decide)
theorem shift_down_ok {na : Bool} {aa : Option Addr} {la ca : Nat} {A : List Nat} {va : Int} (m : Nat) (w : World) (hA : Rd w aa la ca A) (ea : num na A = va) (sa : Sm va) (sr : Sm (va / (2 : Int) ^ m)) (hm : m ≤ 4096) :
    Calls Tryd.prog 53 #[.agg #[.bool na, .slice aa la ca], .int .i64 (-(m : Int))] w fun e w' => ∃ n' ao' len' C, e = .returned (.tuple #[.agg #[.bool n', .slice ao' len' len'], .int .i64 0]) ∧ Rd w' ao' len' len' C ∧ num n' C = va / (2 : Int) ^ m ∧ Below w.heap.size w w' := by
  refine (shift_down_any na aa la ca A m w hA (sa.short ea) hm).mono ?_
  rintro e w' ⟨n', ao', len', c, rfl, hf, hb⟩
  rw [ea] at hf
  obtain ⟨rfl, C, h1, h2⟩ := hf.read sr
  exact ⟨n', ao', len', C, rfl, h1, h2, hb⟩
theorem shift_back_ok {na : Bool} {aa : Option Addr} {la ca : Nat} {A : List Nat} {va : Int} (m : Nat) (w : World) (hA : Rd w aa la ca A) (ea : num na A = va * (2 : Int) ^ m) (sa : Sm (va * (2 : Int) ^ m)) (sr : Sm va) (hm : m ≤ 4096) :
    Calls Tryd.prog 53 #[.agg #[.bool na, .slice aa la ca], .int .i64 (-(m : Int))] w fun e w' => ∃ n' ao' len' C, e = .returned (.tuple #[.agg #[.bool n', .slice ao' len' len'], .int .i64 0]) ∧ Rd w' ao' len' len' C ∧ num n' C = va ∧ Below w.heap.size w w' := by
  have h := shift_down_ok m w hA ea sa (by rw [Int.mul_ediv_cancel _ (pow_ne m)]; exact sr) hm
  rw [Int.mul_ediv_cancel _ (pow_ne m)] at h
  exact h
theorem pow_small {na : Bool} {aa : Option Addr} {la ca : Nat} {A : List Nat} {va : Int} (m : Nat) (w : World) (hA : Rd w aa la ca A) (ea : num na A = va) (sa : Sm va) (sr : Sm (va ^ m)) (hm : m ≤ 4096) :
    Calls Tryd.prog 52 #[.agg #[.bool na, .slice aa la ca], .int .i64 (m : Int)] w fun e w' => ∃ n' ao' len' C, e = .returned (.tuple #[.agg #[.bool n', .slice ao' len' len'], .int .i64 0]) ∧ Rd w' ao' len' len' C ∧ num n' C = va ^ m ∧ Below w.heap.size w w' := by
  refine (pow_good na aa la ca A m w hA (by omega) (sa.short ea)).mono ?_
  rintro e w' ⟨n', ao', len', c, rfl, hf, hb⟩
  rw [ea] at hf
  obtain ⟨rfl, C, h1, h2⟩ := hf.read sr
  exact ⟨n', ao', len', C, rfl, h1, h2, hb⟩
/-- The greatest common divisor, as an integer. -/
def gcdi (a b : Int) : Int := ((Nat.gcd a.natAbs b.natAbs : Nat) : Int)
theorem gcd_ok {na : Bool} {aa : Option Addr} {la ca : Nat} {A : List Nat} {nb : Bool} {ab : Option Addr} {lb cb : Nat} {B : List Nat} {va vb : Int} (w : World) (hA : Rd w aa la ca A) (hB : Rd w ab lb cb B) (ea : num na A = va) (eb : num nb B = vb) (sa : Sm va) (sb : Sm vb) (sr : Sm (gcdi va vb)) :
    Calls Tryd.prog 51 #[.agg #[.bool na, .slice aa la ca], .agg #[.bool nb, .slice ab lb cb]] w fun e w' => ∃ n' ao' len' C, e = .returned (.tuple #[.agg #[.bool n', .slice ao' len' len'], .int .i64 0]) ∧ Rd w' ao' len' len' C ∧ num n' C = gcdi va vb ∧ Below w.heap.size w w' := by
  refine (gcd_good na aa la ca A nb ab lb cb B w hA hB (by rw [sa.short ea, sb.short eb]; rfl)).mono ?_
  rintro e w' ⟨n', ao', len', c, rfl, hf, hb⟩
  rw [val_of_num ea, val_of_num eb] at hf
  obtain ⟨rfl, C, h1, h2⟩ := hf.read sr
  exact ⟨n', ao', len', C, rfl, h1, h2, hb⟩

theorem lt_two_of (r k : Nat) (hr : r < k) : Lt k ((2 : Int) ^ r) := by
  unfold Lt
  have e : ((2 : Int) ^ r).natAbs = 2 ^ r := by rw [Int.natAbs_pow]; rfl
  rw [e]
  exact Nat.pow_lt_pow_right (by decide) hr
theorem lt_two (r : Nat) (hr : r < 900) : Lt 900 ((2 : Int) ^ r) := lt_two_of r 900 hr
theorem lt_up {k : Nat} {v : Int} (r : Nat) (hr : r < 900) (h : Lt k v) : Lt (k + 900) (v * (2 : Int) ^ r) := h.mul (lt_two r hr)
theorem lt_eight {k : Nat} {v : Int} (h : Lt k v) : Lt (k + 4) (v * 8) := h.mul (show Lt 4 8 by unfold Lt; decide)
theorem lt_floor {k : Nat} {v : Int} (r : Nat) (h : Lt k v) : Lt k (v / (2 : Int) ^ r) := by
  unfold Lt at *
  exact Nat.lt_of_le_of_lt (Int.natAbs_ediv_le_natAbs _ _) h
theorem lt_gcd {k : Nat} {a b : Int} (ha : Lt k a) (hb : Lt k b) : Lt k (gcdi a b) := by
  unfold Lt gcdi at *
  rw [Int.natAbs_natCast]
  rcases Nat.eq_zero_or_pos a.natAbs with h | h
  · rw [h, Nat.gcd_zero_left]; exact hb
  · exact Nat.lt_of_le_of_lt (Nat.gcd_le_left _ h) ha
theorem floors_pow {a d m : Int} {r : Nat} (h : Floors a ((2 : Int) ^ r) d m) : d = a / (2 : Int) ^ r := by
  obtain ⟨h1, h2, _, h4⟩ := h
  have hp : (0 : Int) < (2 : Int) ^ r := by
    have h : (0 : Int) < ((2 ^ r : Nat) : Int) := by have := Nat.two_pow_pos r; omega
    simpa using h
  have hm := h4 (by omega)
  rw [h1, Int.add_comm, Int.add_mul_ediv_right _ _ (pow_ne r), Int.ediv_eq_zero_of_lt hm (by omega)]; omega
theorem gcd_zero_both {a b : Int} (h : gcdi a b = 0) : a = 0 ∧ b = 0 := by
  unfold gcdi at h
  have h2 : Nat.gcd a.natAbs b.natAbs = 0 := by omega
  rw [Nat.gcd_eq_zero_iff] at h2
  omega
theorem gcd_rem {a c q r : Int} (h : TruncDiv a c q r) (hd : c.natAbs ∣ a.natAbs) : r = 0 := by
  obtain ⟨h1, h2, _, _⟩ := h
  have h3 : c ∣ a := Int.natAbs_dvd_natAbs.1 hd
  have h4 : c ∣ r := by
    have : r = a - q * c := by omega
    rw [this]
    exact Int.dvd_sub h3 (Int.dvd_mul_left q c)
  have h5 := Int.natAbs_dvd_natAbs.2 h4
  rcases Nat.eq_zero_or_pos r.natAbs with h | h
  · omega
  · have := Nat.le_of_dvd h h5; omega
theorem gcd_left (a b : Int) : (gcdi a b).natAbs ∣ a.natAbs := by unfold gcdi; rw [Int.natAbs_natCast]; exact Nat.gcd_dvd_left _ _
theorem gcd_right (a b : Int) : (gcdi a b).natAbs ∣ b.natAbs := by unfold gcdi; rw [Int.natAbs_natCast]; exact Nat.gcd_dvd_right _ _
theorem gcd_eight (a b : Int) : gcdi (a * 8) (b * 8) = gcdi a b * 8 := by
  unfold gcdi
  rw [Int.natAbs_mul, Int.natAbs_mul, show (8 : Int).natAbs = 8 from rfl, Nat.gcd_mul_right]; simp
theorem gcd_sign {a b : Int} (h : gcdi a b ≠ 0) : (gcdi a b).sign = 1 := Int.sign_eq_one_of_pos (by unfold gcdi at *; omega)
end Go.Proofs.YtldafoojkimdeaaDoor
