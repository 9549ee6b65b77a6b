/- Walks: Mul. -/
import Derived.Test.YtldafoojkimdeaaDoorW12
import Derived.Test.YtldafoojkimdeaaDoorW13
namespace Go.Proofs.YtldafoojkimdeaaDoor
open Go.RowKit Lm

theorem num_mul (na nb : Bool) (A B L : List Nat) (h : val L = val A * val B) : num (!(na == nb)) L = num na A * num nb B := by
  unfold num; rw [h]
  cases na <;> cases nb <;> simp [Int.natCast_mul, Int.neg_mul, Int.mul_neg]

set_option maxRecDepth 100000 in
set_option maxHeartbeats 2000000 in
theorem mul_bad (na : Bool) (aa : Option Addr) (la ca : Nat) (A : List Nat) (nb : Bool) (ab : Option Addr) (lb cb : Nat) (B : List Nat) (w : World) (hA : Rd w aa la ca A) (hB : Rd w ab lb cb B) (hbad : (tooLong A || tooLong B) = true) :
    Calls Tryd.prog 37 #[.agg #[.bool na, .slice aa la ca], .agg #[.bool nb, .slice ab lb cb]] w fun e w' => e = .returned (.tuple #[.agg #[.bool false, .slice none 0 0], .int .i64 10]) ∧ Below w.heap.size w w' := by
  go_enter Tryd.func37, Tryd.ntmps37
  go_wp2_with (go_at_call 77; refine (long2_any _ na aa la ca A nb ab lb cb B _ ((((hA.alloc _).alloc _).alloc _).alloc _) ((((hB.alloc _).alloc _).alloc _).alloc _) (by simp [go_sem]) (by simp [go_sem]) (by simp [go_sem]) (by simp [go_sem])).mono ?_; rintro e w1 ⟨rfl, hb1⟩; rw [hbad]; obtain ⟨p1, p2, p3, hbw⟩ := hp4 _ _ _ _ _ hb1; obtain ⟨c0, c1, f0, f1⟩ := two_cells p3)
  refine bodyPost_ret (v := .tuple #[.agg #[.bool false, .slice none 0 0], .int .i64 10]) (by simp [results, Tryd.results37, go_sem, c0, c1]) rfl ⟨rfl, ?_⟩
  exact (hbw.setCell (by simp; omega) _).setCell (by simp; omega) _

set_option maxRecDepth 100000 in
set_option maxHeartbeats 2000000 in
theorem mul_good (na : Bool) (aa : Option Addr) (la ca : Nat) (A : List Nat) (nb : Bool) (ab : Option Addr) (lb cb : Nat) (B : List Nat) (w : World) (hA : Rd w aa la ca A) (hB : Rd w ab lb cb B) (hbad : (tooLong A || tooLong B) = false) :
    Calls Tryd.prog 37 #[.agg #[.bool na, .slice aa la ca], .agg #[.bool nb, .slice ab lb cb]] w fun e w' => ∃ n' ao' len' c, e = .returned (.tuple #[.agg #[.bool n', .slice ao' len' len'], .int .i64 c]) ∧ Fits w w' n' ao' len' c (num na A * num nb B) ∧ Below w.heap.size w w' := by
  have hsA := small_len A (by simp at hbad; exact hbad.1)
  have hsB := small_len B (by simp at hbad; exact hbad.2)
  have HM := hid (num_mul na nb A B)
  have hvA := hid (tl_val A)
  have hvB := hid (tl_val B)
  go_enter Tryd.func37, Tryd.ntmps37
  go_wp2_with (go_at_call 77; refine (long2_any _ na aa la ca A nb ab lb cb B _ ((((hA.alloc _).alloc _).alloc _).alloc _) ((((hB.alloc _).alloc _).alloc _).alloc _) (by simp [go_sem]) (by simp [go_sem]) (by simp [go_sem]) (by simp [go_sem])).mono ?_; rintro e w1 ⟨rfl, hb1⟩; rw [hbad]; obtain ⟨p1, p2, p3, hbw⟩ := hp4 _ _ _ _ _ hb1; obtain ⟨a0, a1, _, _⟩ := two_cells p1; obtain ⟨b0, b1, _, _⟩ := two_cells p2; have hA1 := hA.keep hbw; have hB1 := hB.keep hbw)
  clear hbad
  have hlt1 : w.heap.size + 4 ≤ w1.heap.size := by have := hb1.size; simp at this ⊢; omega
  have HP3 := hid p3
  clear hb1 p1 p2 p3
  go_region_held3 (fun w' => w'.cell? ⟨w.heap.size, 0, none⟩ = some (.bool na) ∧ w'.cell? ⟨w.heap.size, 1, none⟩ = some (.slice aa la ca) ∧ w'.cell? ⟨w.heap.size + 1, 0, none⟩ = some (.bool nb) ∧ w'.cell? ⟨w.heap.size + 1, 1, none⟩ = some (.slice ab lb cb)) (refine ⟨?_, ?_, ?_, ?_⟩ <;> first | assumption | (simp [go_sem]; assumption))
    (first
      | (go_at_call_of 71 (Value.slice aa la ca); refine (trim_any _ _ _ A _ ?_).mono ?_; (first | exact hA1 | exact hA1.drew); rintro e w5 ⟨rfl, rfl⟩)
      | (go_at_call_of 71 (Value.slice ab lb cb); refine (trim_any _ _ _ B _ ?_).mono ?_; (first | exact hB1 | exact hB1.drew); rintro e w5 ⟨rfl, rfl⟩)
      | (go_at_call 79; refine (product_any _ _ _ (tl A) _ _ _ (tl B) _ ?_ ?_ (by omega) (by omega)).mono ?_; (first | exact hA1.tl | exact hA1.tl.drew); (first | exact hB1.tl | exact hB1.tl.drew); rintro e w2 ⟨g, L, rfl, hg, hR, hL, hok, hval, hb2⟩; have HL := hid hL; have HV := hid hval; have hLs : L.length ≤ 256 := (by omega); clear hL hval; have a02 := cell_keep a0 (undrew hb2); have a12 := cell_keep a1 (undrew hb2); have b02 := cell_keep b0 (undrew hb2); have b12 := cell_keep b1 (undrew hb2); have hP2 := hid (heap_keep HP3.out (undrew hb2)))
      | (go_at_call 78; refine (fit_any _ _ _ _ L _ (hR.whole hok _ (Nat.le_refl _) (by omega))).mono ?_; rintro e w3 ⟨n', ao', len', c, rfl, hfit, hb3⟩; have a03 := cell_keep a02 hb3; have a13 := cell_keep a12 hb3; have b03 := cell_keep b02 hb3; have b13 := cell_keep b12 hb3; obtain ⟨c0, c1, f0, f1⟩ := two_cells (heap_keep hP2.out hb3)))
  have hs2 := (undrew hb2).size
  rw [HM.out L (by rw [HV.out, hvA.out, hvB.out])] at hfit
  go_wp2
  refine bodyPost_ret (v := .tuple #[.agg #[.bool n', .slice ao' len' len'], .int .i64 c]) (by simp [results, Tryd.results37, go_sem, c0, c1]) rfl ⟨_, _, _, _, rfl, ?_, ?_⟩
  · exact hfit.set2 (by omega) (by simp; omega) (by simp; omega) _ _
  · exact (((hbw.trans ((undrew hb2).mono (by simp; omega))).trans (hb3.mono (by omega))).setCell (by simp; omega) _).setCell (by simp; omega) _

theorem Mul_any (na : Bool) (aa : Option Addr) (la ca : Nat) (A : List Nat) (nb : Bool) (ab : Option Addr) (lb cb : Nat) (B : List Nat) (w : World) (hA : Rd w aa la ca A) (hB : Rd w ab lb cb B) :
    Calls Tryd.prog 37 #[.agg #[.bool na, .slice aa la ca], .agg #[.bool nb, .slice ab lb cb]] w fun e w' => ∃ n' ao' len' c, e = .returned (.tuple #[.agg #[.bool n', .slice ao' len' len'], .int .i64 c]) ∧ Ans (tooLong A || tooLong B) w w' n' ao' len' c (num na A * num nb B) ∧ Below w.heap.size w w' := by
  by_cases hbad : (tooLong A || tooLong B) = true
  · refine (mul_bad na aa la ca A nb ab lb cb B w hA hB hbad).mono ?_
    rintro e w' ⟨rfl, hb⟩
    exact ⟨_, _, _, _, rfl, .inl ⟨hbad, rfl, rfl, rfl, rfl⟩, hb⟩
  · have hbad' : (tooLong A || tooLong B) = false := by simpa using hbad
    refine (mul_good na aa la ca A nb ab lb cb B w hA hB hbad').mono ?_
    rintro e w' ⟨n', ao', len', c, rfl, hf, hb⟩
    exact ⟨_, _, _, _, rfl, .inr ⟨hbad', hf⟩, hb⟩
end Go.Proofs.YtldafoojkimdeaaDoor
