/- Walks: Cmp, long. -/
import Derived.Test.YtldafoojkimdeaaDoorW8
import Derived.Deep.RegionHeld3
namespace Go.Proofs.YtldafoojkimdeaaDoor
open Go.RowKit Lm

theorem cmp_lt {na nb : Bool} {A B : List Nat} (h : (num na A).sign < (num nb B).sign) : (num na A - num nb B).sign = -1 := by
  apply Int.sign_eq_neg_one_of_neg
  have h1 := Int.sign_trichotomy (num na A)
  rcases Int.lt_trichotomy (num na A) 0 with h2 | h2 | h2 <;> rcases Int.lt_trichotomy (num nb B) 0 with h3 | h3 | h3 <;>
    simp only [Int.sign_eq_neg_one_of_neg, Int.sign_eq_one_of_pos, Int.sign_zero, h2, h3] at h <;> omega
theorem cmp_gt {na nb : Bool} {A B : List Nat} (h : (num nb B).sign < (num na A).sign) : (num na A - num nb B).sign = 1 := by
  have := cmp_lt h
  have e : num na A - num nb B = -(num nb B - num na A) := by omega
  rw [e, Int.sign_neg, this]; rfl
theorem cmp_eq {na nb : Bool} {A B : List Nat} (h : (num na A).sign = (num nb B).sign) : (num na A - num nb B).sign = (num na A).sign * cmp (val A) (val B) := by
  have hc : cmp (val A) (val B) = ((val A : Int) - (val B : Int)).sign := by
    unfold cmp
    split
    · rw [Int.sign_eq_neg_one_of_neg (by omega)]
    · split
      · rw [Int.sign_eq_one_of_pos (by omega)]
      · rw [show (val A : Int) - (val B : Int) = 0 by omega]; rfl
  rw [hc]
  unfold num at *
  by_cases ha : val A = 0
  · by_cases hb : val B = 0
    · rw [ha, hb]; cases na <;> cases nb <;> simp
    · rw [ha] at h ⊢
      exfalso
      have hp : ((val B : Nat) : Int).sign = 1 := Int.sign_eq_one_of_pos (by omega)
      cases na <;> cases nb <;> simp [hp] at h
  · by_cases hb : val B = 0
    · rw [hb] at h ⊢
      exfalso
      have hp : ((val A : Nat) : Int).sign = 1 := Int.sign_eq_one_of_pos (by omega)
      cases na <;> cases nb <;> simp [hp] at h
    · have hp : ((val A : Nat) : Int).sign = 1 := Int.sign_eq_one_of_pos (by omega)
      have hq : ((val B : Nat) : Int).sign = 1 := Int.sign_eq_one_of_pos (by omega)
      cases na <;> cases nb <;> simp only [Bool.false_eq_true, if_false, if_true, Int.sign_neg, hp, hq] at h ⊢
      · omega
      · omega
      · omega
      · rw [show -(val A : Int) - -(val B : Int) = -((val A : Int) - (val B : Int)) by omega, Int.sign_neg]; omega

theorem sign_num (n : Bool) (A : List Nat) : (num n A).sign = -1 ∨ (num n A).sign = 0 ∨ (num n A).sign = 1 := by
  rcases Int.lt_trichotomy (num n A) 0 with h | h | h
  · exact .inl (Int.sign_eq_neg_one_of_neg h)
  · rw [h]; exact .inr (.inl rfl)
  · exact .inr (.inr (Int.sign_eq_one_of_pos h))
theorem wrap_sign (s : Int) (a b : Nat) (h : s = -1 ∨ s = 0 ∨ s = 1) : wrap64 (s * cmp a b) = s * cmp a b := by
  have hc : cmp a b = -1 ∨ cmp a b = 0 ∨ cmp a b = 1 := by
    unfold cmp; split
    · exact .inl rfl
    · split
      · exact .inr (.inr rfl)
      · exact .inr (.inl rfl)
  rcases h with rfl | rfl | rfl <;> rcases hc with h | h | h <;> rw [h] <;> exact IntWalk.wrap64_in _ (by decide)

theorem trim_q (ao : Option Addr) (len cap : Nat) (A : List Nat) (w : World) (h : Rd w ao len cap A) :
    Calls Tryd.prog 71 #[.slice ao len cap] w fun e w' => e = .returned (.slice ao (tl A).length cap) ∧ w' = w :=
  (trim_any ao len cap A w h).mono fun _ _ h => ⟨h.1, h.2.symm⟩

set_option maxRecDepth 100000 in
set_option maxHeartbeats 1000000 in
theorem cmp_any (na : Bool) (aa : Option Addr) (la ca : Nat) (A : List Nat) (nb : Bool) (ab : Option Addr) (lb cb : Nat) (B : List Nat) (w : World) (hA : Rd w aa la ca A) (hB : Rd w ab lb cb B) :
    Calls Tryd.prog 30 #[.agg #[.bool na, .slice aa la ca], .agg #[.bool nb, .slice ab lb cb]] w fun e w' => e = .returned (.int .i64 (num na A - num nb B).sign) ∧ Below w.heap.size w w' := by
  go_enter Tryd.func30, Tryd.ntmps30
  go_wp2
  go_region_held3 (fun w' => w'.cell? ⟨w.heap.size, 0, none⟩ = some (.bool na) ∧ w'.cell? ⟨w.heap.size, 1, none⟩ = some (.slice aa la ca) ∧ w'.cell? ⟨w.heap.size + 1, 0, none⟩ = some (.bool nb) ∧ w'.cell? ⟨w.heap.size + 1, 1, none⟩ = some (.slice ab lb cb)) (simp [go_sem, World.cell?_alloc_past])
    (first
      | (go_at_call_of 28 (Value.agg #[.bool na, .slice aa la ca]); refine (sign_any _ _ _ _ A _ ?_).mono ?_; (repeat (first | exact hA | apply Rd.alloc | apply Rd.drew)); rintro e w' ⟨rfl, rfl⟩)
      | (go_at_call_of 28 (Value.agg #[.bool nb, .slice ab lb cb]); refine (sign_any _ _ _ _ B _ ?_).mono ?_; (repeat (first | exact hB | apply Rd.alloc | apply Rd.drew)); rintro e w' ⟨rfl, rfl⟩))
  have hA4 := ((((hA.alloc (.cells #[.bool na, .slice aa la ca] 24)).alloc (.cells #[.bool nb, .slice ab lb cb] 24)).alloc (.cells #[.bool na, .slice aa la ca] 24)).alloc (.cells #[.bool nb, .slice ab lb cb] 24)).drew
  have hB4 := ((((hB.alloc (.cells #[.bool na, .slice aa la ca] 24)).alloc (.cells #[.bool nb, .slice ab lb cb] 24)).alloc (.cells #[.bool na, .slice aa la ca] 24)).alloc (.cells #[.bool nb, .slice ab lb cb] 24)).drew
  have hBl : Below w.heap.size w ((((w.alloc (.cells #[.bool na, .slice aa la ca] 24)).alloc (.cells #[.bool nb, .slice ab lb cb] 24)).alloc (.cells #[.bool na, .slice aa la ca] 24)).alloc (.cells #[.bool nb, .slice ab lb cb] 24)).drew :=
    (((((Below.refl _ _).alloc (Nat.le_refl _) _).alloc (by simp) _).alloc (by simp; omega) _).alloc (by simp; omega) _).drew
  have c1 : ((((w.alloc (.cells #[.bool na, .slice aa la ca] 24)).alloc (.cells #[.bool nb, .slice ab lb cb] 24)).alloc (.cells #[.bool na, .slice aa la ca] 24)).alloc (.cells #[.bool nb, .slice ab lb cb] 24)).drew.cell? ⟨w.heap.size, 1, none⟩ = some (.slice aa la ca) := by simp [go_sem, World.cell?_alloc_past]
  have c2 : ((((w.alloc (.cells #[.bool na, .slice aa la ca] 24)).alloc (.cells #[.bool nb, .slice ab lb cb] 24)).alloc (.cells #[.bool na, .slice aa la ca] 24)).alloc (.cells #[.bool nb, .slice ab lb cb] 24)).drew.cell? ⟨w.heap.size + 1, 1, none⟩ = some (.slice ab lb cb) := by simp [go_sem, World.cell?_alloc_past]
  generalize ((((w.alloc (.cells #[.bool na, .slice aa la ca] 24)).alloc (.cells #[.bool nb, .slice ab lb cb] 24)).alloc (.cells #[.bool na, .slice aa la ca] 24)).alloc (.cells #[.bool nb, .slice ab lb cb] 24)).drew = wv at *
  have H1 := hid (cmp_lt (na := na) (nb := nb) (A := A) (B := B))
  have H2 := hid (cmp_gt (na := na) (nb := nb) (A := A) (B := B))
  have H3 := hid (cmp_eq (na := na) (nb := nb) (A := A) (B := B))
  have H4 := hid (sign_num na A)
  have HtA := hid (tl_val A)
  have HtB := hid (tl_val B)
  generalize hsA : (num na A).sign = sA at *
  generalize hsB : (num nb B).sign = sB at *
  clear hsA hsB
  rcases Int.lt_trichotomy sA sB with hlt | heq | hgt
  · have e := hid (H1.out hlt)
    go_wp2
    go_ret
    exact ⟨by rw [e.out]; rfl, hBl⟩
  · have e := hid (H3.out heq)
    have h1 : ¬ sA < sB := by omega
    have h2 : ¬ sB < sA := by omega
    clear heq
    go_wp2
    go_quiet (first
      | (go_at_call_of 71 (Value.slice aa la ca); go_must (refine Calls.quiet_of_same (trim_q _ _ _ A _ ?_); (repeat (first | exact hA4 | apply Rd.drewN | apply Rd.drew))))
      | (go_at_call_of 71 (Value.slice ab lb cb); go_must (refine Calls.quiet_of_same (trim_q _ _ _ B _ ?_); (repeat (first | exact hB4 | apply Rd.drewN | apply Rd.drew))))
      | (go_at_call 74; go_must (refine Calls.quiet_of (compare_any _ _ _ (tl A) _ _ _ (tl B) _ ?_ ?_ (tl_top A) (tl_top B)); (repeat (first | exact hA4.tl | apply Rd.drewN | apply Rd.drew)); (repeat (first | exact hB4.tl | apply Rd.drewN | apply Rd.drew)))))
    go_wp2
    go_ret
    refine ⟨?_, bdrew hBl _⟩
    show Ending.returned (.int .i64 (wrap64 (sA * cmp (val (tl A)) (val (tl B))))) = _
    rw [e.out, wrap_sign _ _ _ H4.out, HtA.out, HtB.out]
  · have e := hid (H2.out hgt)
    go_wp2
    go_ret
    exact ⟨by rw [e.out]; rfl, hBl⟩
end Go.Proofs.YtldafoojkimdeaaDoor
