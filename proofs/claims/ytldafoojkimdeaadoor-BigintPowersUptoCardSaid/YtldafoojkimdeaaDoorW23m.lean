/- Walks: divideBoth where nothing is wrong. Walks: DivMod where nothing is wrong. -/
import Derived.Test.YtldafoojkimdeaaDoorW21
namespace Go.Proofs.YtldafoojkimdeaaDoor
open Go.RowKit Lm

/-- Quotient and trimmed remainder. -/
def Divt (w' : World) (A B : Nat) (qo : Option Addr) (ql qc : Nat) (ro : Option Addr) (rl rc : Nat) : Prop :=
  ∃ Q R, Rd w' qo ql qc Q ∧ Rd w' ro rl rc R ∧ Top R ∧ A = val Q * B + val R ∧ val R < B ∧ ql ≤ 300 ∧ rl ≤ 300

theorem hp3b (w : World) (o1 o2 o3 : Obj) {w1 : World} (hb : Below (((w.alloc o1).alloc o2).alloc o3).heap.size (((w.alloc o1).alloc o2).alloc o3) w1) :
    w1.heap[w.heap.size]? = some o1 ∧ w1.heap[w.heap.size + 1]? = some o2 ∧ Below w.heap.size w w1 ∧ w.heap.size + 3 ≤ w1.heap.size := by
  obtain ⟨h1, h2, _, h4⟩ := hp3 w o1 o2 o3 hb
  exact ⟨h1, h2, h4, by have := hb.size; simp at this; omega⟩

set_option maxRecDepth 100000 in
set_option maxHeartbeats 2000000 in
theorem divideBoth_good (na : Bool) (aa : Option Addr) (la ca : Nat) (A : List Nat) (nb : Bool) (ab : Option Addr) (lb cb : Nat) (B : List Nat) (w : World) (hA : Rd w aa la ca A) (hB : Rd w ab lb cb B) (hbad : (tooLong A || tooLong B) = false) (hb0 : 0 < val B) (hshort : (tl B).length ≤ 1) :
    Calls Tryd.prog 83 #[.agg #[.bool na, .slice aa la ca], .agg #[.bool nb, .slice ab lb cb]] w fun e w' => ∃ qo ql qc ro rl rc, e = .returned (.tuple #[.slice qo ql qc, .slice ro rl rc, .int .i64 0]) ∧ Divt w' (val A) (val B) qo ql qc ro rl rc ∧ Below w.heap.size w w' := by
  have hsA := small_len A (by simp at hbad; exact hbad.1)
  have hsB := small_len B (by simp at hbad; exact hbad.2)
  have hvA := hid (tl_val A)
  have hvB := hid (tl_val B)
  have hsgn : ((num nb B).sign == 0) = false := by
    have h : num nb B ≠ 0 := by unfold num; cases nb <;> simp <;> omega
    rcases Int.lt_trichotomy (num nb B) 0 with h1 | h1 | h1
    · rw [Int.sign_eq_neg_one_of_neg h1]; rfl
    · exact absurd h1 h
    · rw [Int.sign_eq_one_of_pos h1]; rfl
  have HB0 := hid hb0
  clear hb0
  go_enter Tryd.func83, Tryd.ntmps83
  go_wp2_with (first
    | (go_at_call 77; refine (long2_any _ na aa la ca A nb ab lb cb B _ (((hA.alloc _).alloc _).alloc _) (((hB.alloc _).alloc _).alloc _) (by simp [go_sem]) (by simp [go_sem]) (by simp [go_sem]) (by simp [go_sem])).mono ?_; rintro e w1 ⟨rfl, hb1⟩; rw [hbad]; obtain ⟨p1, p2, hbw, hlt1⟩ := hp3b _ _ _ _ hb1; obtain ⟨a0, a1, _, _⟩ := two_cells p1; obtain ⟨b0, b1, _, _⟩ := two_cells p2; have hA1 := hA.keep hbw; have hB1 := hB.keep hbw)
    | (go_at_call 28; refine (sign_any _ _ _ _ B _ hB1).mono ?_; rintro e w5 ⟨rfl, rfl⟩))
  clear hbad
  have hA2 := hA1.alloc (.cells #[.bool nb, .slice ab lb cb] 24)
  have hB2 := hB1.alloc (.cells #[.bool nb, .slice ab lb cb] 24)
  have hbw2 : Below w.heap.size w (w1.alloc (.cells #[.bool nb, .slice ab lb cb] 24)) := hbw.alloc (by omega) _
  have a12 := cell_keep a1 ((Below.refl w1.heap.size w1).alloc (Nat.le_refl _) (.cells #[.bool nb, .slice ab lb cb] 24))
  have b12 := cell_keep b1 ((Below.refl w1.heap.size w1).alloc (Nat.le_refl _) (.cells #[.bool nb, .slice ab lb cb] 24))
  have hlt2 : w.heap.size + 3 ≤ (w1.alloc (.cells #[.bool nb, .slice ab lb cb] 24)).heap.size := by simp; omega
  clear hb1 p1 p2 a0 a1 b0 b1 hA1 hB1 hbw hlt1 hsgn
  generalize w1.alloc (.cells #[.bool nb, .slice ab lb cb] 24) = wv at *
  go_region_held3 (fun w' => w'.cell? ⟨w.heap.size, 1, none⟩ = some (.slice aa la ca) ∧ w'.cell? ⟨w.heap.size + 1, 1, none⟩ = some (.slice ab lb cb)) (refine ⟨?_, ?_⟩ <;> first | assumption | (simp [go_sem]; assumption))
    (first
      | (go_at_call_of 71 (Value.slice aa la ca); refine (trim_any _ _ _ A _ ?_).mono ?_; (first | exact hA2 | exact hA2.drew); rintro e w5 ⟨rfl, rfl⟩)
      | (go_at_call_of 71 (Value.slice ab lb cb); refine (trim_any _ _ _ B _ ?_).mono ?_; (first | exact hB2 | exact hB2.drew); rintro e w5 ⟨rfl, rfl⟩)
      | (go_at_call 94; refine (divide_any _ _ _ (tl A) _ _ _ (tl B) _ ?_ ?_ (tl_top A) (tl_top B) (by omega) (by omega) (by rw [hvB.out]; exact HB0.out) hshort).mono ?_; (first | exact hA2.tl | exact hA2.tl.drew); (first | exact hB2.tl | exact hB2.tl.drew); rintro e w2 ⟨qo, ql, qc, ro, rl, rc, rfl, hdiv, hb2⟩; have a13 := cell_keep a12 (undrew hb2); have b13 := cell_keep b12 (undrew hb2)))
  obtain ⟨Q, R, hQ, hR, hval, hlt, hql, hrl⟩ := hdiv
  have HV := hid hval
  have HLT := hid hlt
  clear hval hlt
  go_wp2_with (go_at_call 71; refine (trim_any _ _ _ R _ hR).mono ?_; rintro e w5 ⟨rfl, rfl⟩)
  go_ret3
  refine ⟨_, _, _, _, _, _, rfl, ⟨Q, tl R, hQ, hR.tl, tl_top R, ?_, ?_, hql, ?_⟩, hbw2.trans ((undrew hb2).mono (by simp; omega))⟩
  · rw [← hvA.out, ← hvB.out, show val (tl R) = val R from tl_val R]; exact HV.out
  · rw [← hvB.out, show val (tl R) = val R from tl_val R]; exact HLT.out
  · have := tl_length_le R; have := hR.size; omega
end Go.Proofs.YtldafoojkimdeaaDoor

namespace Go.Proofs.YtldafoojkimdeaaDoor
open Go.RowKit Lm

theorem hp4c (w : World) (o1 o2 o3 o4 : Obj) {w1 : World} (hb : Below ((((w.alloc o1).alloc o2).alloc o3).alloc o4).heap.size ((((w.alloc o1).alloc o2).alloc o3).alloc o4) w1) :
    w1.heap[w.heap.size]? = some o1 ∧ w1.heap[w.heap.size + 1]? = some o2 ∧ w1.heap[w.heap.size + 2]? = some o3 ∧ w1.heap[w.heap.size + 3]? = some o4 ∧ Below w.heap.size w w1 ∧ w.heap.size + 4 ≤ w1.heap.size := by
  obtain ⟨h1, h2, h3, h4⟩ := hp4 w o1 o2 o3 o4 hb
  refine ⟨h1, h2, h3, ?_, h4, by have := hb.size; simp at this; omega⟩
  rw [hb.block _ (by simp)]
  have := heap_alloc_new (((w.alloc o1).alloc o2).alloc o3) o4
  simpa using this

theorem cell_set {w : World} {a p : Addr} {u v : Value} (h : w.cell? a = some v) (hb : p.block ≠ a.block) : (w.setCell p u).cell? a = some v :=
  (World.cell?_of_block (w := w) (Below.heap_setCell _ _ _ _ (fun e => hb e.symm))).trans h

theorem bool_ne {a b : Bool} (h : ¬a = b) : a = !b := by cases a <;> cases b <;> simp at h ⊢
theorem bool_no (b : Bool) (h : (!(!b) == b) = false) : False := by cases b <;> simp at h

theorem limbsOf_one (w : World) : Calls Tryd.prog 70 #[.int .u64 1] w fun e w' => ∃ g, e = .returned (.slice (some ⟨g, 0, none⟩) 2 2) ∧ w.heap.size ≤ g ∧ Rw w' g [1, 0] ∧ Below w.heap.size w w' :=
  limbsOf_any 1 w (by decide)
theorem ok_one : Ok [1, 0] := (Ok.nil.cons (by decide)).cons (by decide)

/-- Divided downwards. -/
def FloorDiv (a b q r : Int) (nb : Bool) : Prop := a = q * b + r ∧ r.natAbs < b.natAbs ∧ (nb = true → r ≤ 0) ∧ (nb = false → 0 ≤ r)

theorem floor_same (n : Bool) (A B Q R : List Nat) (h : val A = val Q * val B + val R) (hl : val R < val B) : FloorDiv (num n A) (num n B) (num false Q) (num n R) n := by
  unfold FloorDiv num
  cases n
  · refine ⟨?_, by simpa using hl, by simp, by simp⟩
    simp [h, Int.natCast_mul]
  · refine ⟨?_, by simpa using hl, by simp, by simp⟩
    simp [h, Int.natCast_mul, Int.mul_neg]; omega
theorem floor_zero (n : Bool) (A B Q R : List Nat) (h : val A = val Q * val B + val R) (h0 : val R = 0) (hb : 0 < val B) : FloorDiv (num (!n) A) (num n B) (num true Q) (num n R) n := by
  rw [h0, Nat.add_zero] at h
  unfold FloorDiv num
  rw [h, h0]
  cases n
  · refine ⟨?_, by simpa using hb, by simp, by simp⟩
    simp [Int.natCast_mul, Int.neg_mul]
  · refine ⟨?_, by simpa using hb, by simp, by simp⟩
    simp [Int.natCast_mul, Int.neg_mul, Int.mul_neg]
theorem floor_up (n : Bool) (A B Q R Q' R' : List Nat) (h : val A = val Q * val B + val R) (h0 : 0 < val R) (_hl : val R < val B) (hq : val Q' = val Q + 1) (hr : val R' + val R = val B) : FloorDiv (num (!n) A) (num n B) (num true Q') (num n R') n := by
  have e : (val A : Int) = val Q * val B + val R := by rw [h]; simp [Int.natCast_mul]
  have e2 : (val R' : Int) + val R = val B := by rw [← hr]; simp
  unfold FloorDiv num
  rw [hq]
  cases n
  · refine ⟨?_, by simp; omega, by simp, by simp⟩
    simp only [Bool.not_false, if_true, Bool.false_eq_true, if_false]
    rw [e, Int.natCast_add, Int.neg_mul, Int.add_mul]
    simp; omega
  · refine ⟨?_, by simp; omega, by simp, by simp⟩
    simp only [Bool.not_true, if_true, Bool.false_eq_true, if_false]
    rw [e, Int.natCast_add, Int.neg_mul, Int.mul_neg, Int.add_mul]
    simp; omega

set_option maxRecDepth 100000 in
set_option maxHeartbeats 1000000 in
theorem divMod_good (na : Bool) (aa : Option Addr) (la ca : Nat) (A : List Nat) (nb : Bool) (ab : Option Addr) (lb cb : Nat) (B : List Nat) (w : World) (hA : Rd w aa la ca A) (hB : Rd w ab lb cb B) (hbad : (tooLong A || tooLong B) = false) (hb0 : 0 < val B) (hshort : (tl B).length ≤ 1) :
    Calls Tryd.prog 42 #[.agg #[.bool na, .slice aa la ca], .agg #[.bool nb, .slice ab lb cb]] w fun e w' => ∃ nq qo ql nr ro rl q r, e = .returned (.tuple #[.agg #[.bool nq, .slice qo ql ql], .agg #[.bool nr, .slice ro rl rl], .int .i64 0]) ∧
      Num w.heap.size w' nq qo ql q ∧ Num w.heap.size w' nr ro rl r ∧ FloorDiv (num na A) (num nb B) q r nb ∧ Below w.heap.size w w' := by
  have hsB := small_len B (by simp at hbad; exact hbad.2)
  have HB0 := hid hb0
  have hvB := hid (tl_val B)
  go_enter Tryd.func42, Tryd.ntmps42
  go_wp2_with (go_at_call 83; refine (divideBoth_good na aa la ca A nb ab lb cb B _ ((((hA.alloc _).alloc _).alloc _).alloc _) ((((hB.alloc _).alloc _).alloc _).alloc _) hbad hb0 hshort).mono ?_; rintro e w1 ⟨qo, ql, qc, ro, rl, rc, rfl, ⟨Q, R, hQ, hR, tR, hval, hlt, hql, hrl⟩, hb1⟩; obtain ⟨p1, p2, p3, p4, hbw, hlt1⟩ := hp4c _ _ _ _ _ hb1; obtain ⟨a0, _, _, _⟩ := two_cells p1; obtain ⟨b0, b1, _, _⟩ := two_cells p2; have hB1 := hB.keep hbw; have P3 := hid p3; have P4 := hid p4; have HV := hid hval; have HLT := hid hlt; have ca0 := a0; have cb0 := b0; clear p1 p2 p3 p4 hval hlt hb1 a0 b0)
  · have hna : na = nb := by assumption
    subst hna
    have ca0d := show w1.drew.cell? ⟨w.heap.size, 0, none⟩ = _ from ca0
    have cb0d := show w1.drew.cell? ⟨w.heap.size + 1, 0, none⟩ = _ from cb0
    go_region_held3 (fun w' => w'.cell? ⟨w.heap.size, 0, none⟩ = some (.bool na) ∧ w'.cell? ⟨w.heap.size + 1, 0, none⟩ = some (.bool na)) (first | (with_reducible exact ⟨ca0, cb0⟩) | (with_reducible exact ⟨ca0d, cb0d⟩) | (with_reducible exact ⟨a03, b03⟩) | (with_reducible exact ⟨a04, b04⟩) | (simp [go_sem, a04, b04]; done))
      (first
        | (go_at_call 69; (with_reducible refine (give_any _ qo ql qc Q _ ?_).mono ?_); (first | exact hQ | exact hQ.drew); rintro e w2 ⟨n1, ao1, len1, rfl, hn1, hb2⟩; have a03 := cell_keep ca0 (undrew hb2); have b03 := cell_keep cb0 (undrew hb2); have q3 := hid (heap_keep P3.out (undrew hb2)); have q4 := hid (heap_keep P4.out (undrew hb2)); have hR2 := hR.keep (undrew hb2))
        | (go_at_call 69; (with_reducible refine (give_any _ ro rl rc R _ hR2).mono ?_); rintro e w3 ⟨n2, ao2, len2, rfl, hn2, hb3⟩; have a04 := cell_keep a03 hb3; have b04 := cell_keep b03 hb3; obtain ⟨c0, c1, f0, f1⟩ := two_cells (heap_keep q3.out hb3); obtain ⟨d0, d1, g0, g1⟩ := two_cells (heap_keep q4.out hb3)))
    have hs2 := (undrew hb2).size
    have hs3 := hb3.size
    have hfd := floor_same na A B Q R HV.out HLT.out
    go_wp2
    refine bodyPost_ret (v := .tuple #[.agg #[.bool n1, .slice ao1 len1 len1], .agg #[.bool n2, .slice ao2 len2 len2], .int .i64 0]) (by simp [results, Tryd.results42, go_sem, c0, c1, d0, d1]) rfl ⟨_, _, _, _, _, _, _, _, rfl, ?_, ?_, hfd, ?_⟩
    · exact (((((hn1.keep hb3).set (by simp; omega) _).set (by simp; omega) _).set (by simp; omega) _).set (by simp; omega) _).mono (by simp; omega)
    · exact ((((hn2.set (by simp; omega) _).set (by simp; omega) _).set (by simp; omega) _).set (by simp; omega) _).mono (by omega)
    · exact ((((((hbw).trans ((undrew hb2).mono (by simp; omega))).trans (hb3.mono (by omega))).setCell (by simp; omega) _).setCell (by simp; omega) _).setCell (by simp; omega) _).setCell (by simp; omega) _
    
  · have hcond : (!na == nb) = true ∧ 0 < rl := by assumption
    have hrl0 := hcond.2
    have hnn : ¬na = nb := by assumption
    have hna := bool_ne hnn
    clear hnn hcond
    subst hna
    have hR0 : 0 < val R := by
      rcases Nat.eq_zero_or_pos (val R) with h | h
      · have := top_zero tR h
        have h2 := hR.size
        rw [this] at h2; simp at h2; omega
      · exact h
    have hlen : rl ≤ (tl B).length := by
      have h1 := hR.size
      have h2 := fun k => top_length tR (tl_ok hB.ok) k
      rw [tl_val] at h2
      have := HLT.out
      omega
    have hle : val R ≤ val (tl B) := by rw [tl_val]; exact Nat.le_of_lt HLT.out
    have HR0 := hid hR0
    have HLE := hid hle
    have cb1 := b1
    have cb1d := show w1.drew.cell? ⟨w.heap.size + 1, 1, none⟩ = _ from b1
    clear hR0 hle
    go_region_held3 (fun w' => w'.cell? ⟨w.heap.size + 1, 1, none⟩ = some (.slice ab lb cb)) (first | (with_reducible exact cb1) | (with_reducible exact cb1d) | (with_reducible exact b12) | (with_reducible exact b13) | (with_reducible exact b14) | (simp [go_sem, b14]; done))
      (first
        | (go_at_call 70; refine (limbsOf_one _).mono ?_; rintro e w2 ⟨gl, rfl, hgl, hL1, hb2⟩; have b12 := cell_keep cb1 (undrew hb2); have hQ2 := hQ.keep (undrew hb2); have hL1' := (show Rd w2 (some ⟨gl, 0, none⟩) 2 2 [1, 0] from hL1.whole ok_one 2 (by simp) (by omega)))
        | (go_at_call 84; refine (sum_any _ _ _ Q _ _ _ [1, 0] _ hQ2 hL1' (by omega) (by omega)).mono ?_; rintro e w3 ⟨gs, S, rfl, hgs, hS, hSl, hSo, hSv, hb3⟩; have HSL := hid hSl; have HSV := hid hSv; have hSs : S.length ≤ 301 := (by omega); clear hSl hSv; have b13 := cell_keep b12 hb3)
        | (go_at_call 71; refine (trim_any _ _ _ B _ ((hB1.keep (undrew hb2)).keep hb3)).mono ?_; rintro e w5 ⟨rfl, rfl⟩)
        | (go_at_call 85; refine (difference_any _ _ _ (tl B) _ _ _ R _ ((hB1.keep (undrew hb2)).keep hb3).tl ((hR.keep (undrew hb2)).keep hb3) hlen (by omega) HLE.out).mono ?_; rintro e w4 ⟨gd, D, rfl, hgd, hD, hDl, hDo, hDv, hb4⟩; have HDL := hid hDl; have HDV := hid hDv; have hDs : D.length ≤ 128 := (by omega); clear hDl hDv; have b14 := cell_keep b13 hb4))
    have hwv : Below w1.heap.size w1 w4 := ((undrew hb2).trans (hb3.mono (undrew hb2).size)).trans (hb4.mono (Nat.le_trans (undrew hb2).size hb3.size))
    have hQ5 : Rd w4 (some ⟨gs, 0, none⟩) S.length S.length S := (hS.keep' hb4).whole hSo _ (Nat.le_refl _) (by omega)
    have hR5 : Rd w4 (some ⟨gd, 0, none⟩) D.length D.length D := hD.whole hDo _ (Nat.le_refl _) (by omega)
    have ca05 := cell_keep ca0 hwv
    have cb05 := cell_keep cb0 hwv
    have P35 := hid (heap_keep P3.out hwv)
    have P45 := hid (heap_keep P4.out hwv)
    have hbw5 := hbw.trans (hwv.mono (by omega))
    have hlt5 : w.heap.size + 4 ≤ w4.heap.size := Nat.le_trans hlt1 hwv.size
    have hSV2 : val S = val Q + 1 := by rw [HSV.out]; simp [val]
    have hDV2 : val D + val R = val B := by rw [HDV.out, tl_val]
    have HS2 := hid hSV2
    have HD2 := hid hDV2
    clear hSV2 hDV2 ca0 cb0 cb1 cb1d P3 P4 hQ hR hbw hlt1 b12 b13 b14 hL1' hQ2 hB1 b1
    have ca0 := ca05
    have cb0 := cb05
    have P3 := P35
    have P4 := P45
    have hQ := hQ5
    have hR := hR5
    have hbw := hbw5
    have hlt1 := hlt5
    clear ca05 cb05 P35 P45 hQ5 hR5 hbw5 hlt5
    clear hb2 hb3 hb4 hwv
    go_wp2
    have ca0d := show w4.drew.cell? ⟨w.heap.size, 0, none⟩ = _ from ca0
    have cb0d := show w4.drew.cell? ⟨w.heap.size + 1, 0, none⟩ = _ from cb0
    go_region_held3 (fun w' => w'.cell? ⟨w.heap.size, 0, none⟩ = some (.bool (!nb)) ∧ w'.cell? ⟨w.heap.size + 1, 0, none⟩ = some (.bool nb)) (first | (with_reducible exact ⟨ca0, cb0⟩) | (with_reducible exact ⟨ca0d, cb0d⟩) | (with_reducible exact ⟨a03, b03⟩) | (with_reducible exact ⟨a04, b04⟩) | (simp [go_sem, a04, b04]; done))
      (first
        | (go_at_call 69; (with_reducible refine (give_any _ (some ⟨gs, 0, none⟩) S.length S.length S _ ?_).mono ?_); (first | exact hQ | exact hQ.drew); rintro e w2 ⟨n1, ao1, len1, rfl, hn1, hb2⟩; have a03 := cell_keep ca0 (undrew hb2); have b03 := cell_keep cb0 (undrew hb2); have q3 := hid (heap_keep P3.out (undrew hb2)); have q4 := hid (heap_keep P4.out (undrew hb2)); have hR2 := hR.keep (undrew hb2))
        | (go_at_call 69; (with_reducible refine (give_any _ (some ⟨gd, 0, none⟩) D.length D.length D _ hR2).mono ?_); rintro e w3 ⟨n2, ao2, len2, rfl, hn2, hb3⟩; have a04 := cell_keep a03 hb3; have b04 := cell_keep b03 hb3; obtain ⟨c0, c1, f0, f1⟩ := two_cells (heap_keep q3.out hb3); obtain ⟨d0, d1, g0, g1⟩ := two_cells (heap_keep q4.out hb3)))
    have hs2 := (undrew hb2).size
    have hs3 := hb3.size
    have hfd := floor_up nb A B Q R S D HV.out HR0.out HLT.out HS2.out HD2.out
    have hx : (!(!nb) == nb) = true := by cases nb <;> rfl
    try rw [hx] at hn1
    go_wp2
    refine bodyPost_ret (v := .tuple #[.agg #[.bool n1, .slice ao1 len1 len1], .agg #[.bool n2, .slice ao2 len2 len2], .int .i64 0]) (by simp [results, Tryd.results42, go_sem, c0, c1, d0, d1]) rfl ⟨_, _, _, _, _, _, _, _, rfl, ?_, ?_, hfd, ?_⟩
    · exact (((((hn1.keep hb3).set (by simp; omega) _).set (by simp; omega) _).set (by simp; omega) _).set (by simp; omega) _).mono (by simp; omega)
    · exact ((((hn2.set (by simp; omega) _).set (by simp; omega) _).set (by simp; omega) _).set (by simp; omega) _).mono (by omega)
    · exact ((((((hbw).trans ((undrew hb2).mono (by simp; omega))).trans (hb3.mono (by omega))).setCell (by simp; omega) _).setCell (by simp; omega) _).setCell (by simp; omega) _).setCell (by simp; omega) _
    
  · have hcond : (!na == nb) = false ∨ ¬0 < rl := by assumption
    have hnn : ¬na = nb := by assumption
    have hna := bool_ne hnn
    clear hnn
    subst hna
    have hrl0 : rl = 0 := by
      rcases hcond with h | h
      · exact (bool_no nb h).elim
      · omega
    have hR0 : val R = 0 := by rw [List.eq_nil_of_length_eq_zero (hR.size.trans hrl0)]; rfl
    have HR0 := hid hR0
    clear hcond hR0 hrl0
    have ca0d := show w1.drew.cell? ⟨w.heap.size, 0, none⟩ = _ from ca0
    have cb0d := show w1.drew.cell? ⟨w.heap.size + 1, 0, none⟩ = _ from cb0
    go_region_held3 (fun w' => w'.cell? ⟨w.heap.size, 0, none⟩ = some (.bool (!nb)) ∧ w'.cell? ⟨w.heap.size + 1, 0, none⟩ = some (.bool nb)) (first | (with_reducible exact ⟨ca0, cb0⟩) | (with_reducible exact ⟨ca0d, cb0d⟩) | (with_reducible exact ⟨a03, b03⟩) | (with_reducible exact ⟨a04, b04⟩) | (simp [go_sem, a04, b04]; done))
      (first
        | (go_at_call 69; (with_reducible refine (give_any _ qo ql qc Q _ ?_).mono ?_); (first | exact hQ | exact hQ.drew); rintro e w2 ⟨n1, ao1, len1, rfl, hn1, hb2⟩; have a03 := cell_keep ca0 (undrew hb2); have b03 := cell_keep cb0 (undrew hb2); have q3 := hid (heap_keep P3.out (undrew hb2)); have q4 := hid (heap_keep P4.out (undrew hb2)); have hR2 := hR.keep (undrew hb2))
        | (go_at_call 69; (with_reducible refine (give_any _ ro rl rc R _ hR2).mono ?_); rintro e w3 ⟨n2, ao2, len2, rfl, hn2, hb3⟩; have a04 := cell_keep a03 hb3; have b04 := cell_keep b03 hb3; obtain ⟨c0, c1, f0, f1⟩ := two_cells (heap_keep q3.out hb3); obtain ⟨d0, d1, g0, g1⟩ := two_cells (heap_keep q4.out hb3)))
    have hs2 := (undrew hb2).size
    have hs3 := hb3.size
    have hfd := floor_zero nb A B Q R HV.out HR0.out HB0.out
    have hx : (!(!nb) == nb) = true := by cases nb <;> rfl
    try rw [hx] at hn1
    go_wp2
    refine bodyPost_ret (v := .tuple #[.agg #[.bool n1, .slice ao1 len1 len1], .agg #[.bool n2, .slice ao2 len2 len2], .int .i64 0]) (by simp [results, Tryd.results42, go_sem, c0, c1, d0, d1]) rfl ⟨_, _, _, _, _, _, _, _, rfl, ?_, ?_, hfd, ?_⟩
    · exact (((((hn1.keep hb3).set (by simp; omega) _).set (by simp; omega) _).set (by simp; omega) _).set (by simp; omega) _).mono (by simp; omega)
    · exact ((((hn2.set (by simp; omega) _).set (by simp; omega) _).set (by simp; omega) _).set (by simp; omega) _).mono (by omega)
    · exact ((((((hbw).trans ((undrew hb2).mono (by simp; omega))).trans (hb3.mono (by omega))).setCell (by simp; omega) _).setCell (by simp; omega) _).setCell (by simp; omega) _).setCell (by simp; omega) _
    
end Go.Proofs.YtldafoojkimdeaaDoor
