/- Walks: divideBoth where nothing is wrong. -/
import Derived.Test.YtldafoojkimdeaaDoorW21
namespace Go.Proofs.YtldafoojkimdeaaDoor
open Go.RowKit Lm

/-- Quotient and trimmed remainder. -/
def Divt (w' : World) (A B : Nat) (qo : Option Addr) (ql qc : Nat) (ro : Option Addr) (rl rc : Nat) : Prop :=
  ∃ Q R, Rd w' qo ql qc Q ∧ Rd w' ro rl rc R ∧ Top R ∧ A = val Q * B + val R ∧ val R < B ∧ ql ≤ 300 ∧ rl ≤ 300

theorem hp3b (w : World) (o1 o2 o3 : Obj) {w1 : World} (hb : Below (((w.alloc o1).alloc o2).alloc o3).heap.size (((w.alloc o1).alloc o2).alloc o3) w1) :
    w1.heap[w.heap.size]? = some o1 ∧ w1.heap[w.heap.size + 1]? = some o2 ∧ Below w.heap.size w w1 ∧ w.heap.size + 3 ≤ w1.heap.size := by
  obtain ⟨h1, h2, _, h4⟩ := hp3 w o1 o2 o3 hb
  exact ⟨h1, h2, h4, by have := hb.size; simp at this; omega⟩

set_option maxRecDepth 100000 in
set_option maxHeartbeats 2000000 in
theorem divideBoth_good (na : Bool) (aa : Option Addr) (la ca : Nat) (A : List Nat) (nb : Bool) (ab : Option Addr) (lb cb : Nat) (B : List Nat) (w : World) (hA : Rd w aa la ca A) (hB : Rd w ab lb cb B) (hbad : (tooLong A || tooLong B) = false) (hb0 : 0 < val B) (hshort : (tl B).length ≤ 1) :
    Calls Tryd.prog 83 #[.agg #[.bool na, .slice aa la ca], .agg #[.bool nb, .slice ab lb cb]] w fun e w' => ∃ qo ql qc ro rl rc, e = .returned (.tuple #[.slice qo ql qc, .slice ro rl rc, .int .i64 0]) ∧ Divt w' (val A) (val B) qo ql qc ro rl rc ∧ Below w.heap.size w w' := by
  have hsA := small_len A (by simp at hbad; exact hbad.1)
  have hsB := small_len B (by simp at hbad; exact hbad.2)
  have hvA := hid (tl_val A)
  have hvB := hid (tl_val B)
  have hsgn : ((num nb B).sign == 0) = false := by
    have h : num nb B ≠ 0 := by unfold num; cases nb <;> simp <;> omega
    rcases Int.lt_trichotomy (num nb B) 0 with h1 | h1 | h1
    · rw [Int.sign_eq_neg_one_of_neg h1]; rfl
    · exact absurd h1 h
    · rw [Int.sign_eq_one_of_pos h1]; rfl
  have HB0 := hid hb0
  clear hb0
  go_enter Tryd.func83, Tryd.ntmps83
  go_wp2_with (first
    | (go_at_call 77; refine (long2_any _ na aa la ca A nb ab lb cb B _ (((hA.alloc _).alloc _).alloc _) (((hB.alloc _).alloc _).alloc _) (by simp [go_sem]) (by simp [go_sem]) (by simp [go_sem]) (by simp [go_sem])).mono ?_; rintro e w1 ⟨rfl, hb1⟩; rw [hbad]; obtain ⟨p1, p2, hbw, hlt1⟩ := hp3b _ _ _ _ hb1; obtain ⟨a0, a1, _, _⟩ := two_cells p1; obtain ⟨b0, b1, _, _⟩ := two_cells p2; have hA1 := hA.keep hbw; have hB1 := hB.keep hbw)
    | (go_at_call 28; refine (sign_any _ _ _ _ B _ hB1).mono ?_; rintro e w5 ⟨rfl, rfl⟩))
  clear hbad
  have hA2 := hA1.alloc (.cells #[.bool nb, .slice ab lb cb] 24)
  have hB2 := hB1.alloc (.cells #[.bool nb, .slice ab lb cb] 24)
  have hbw2 : Below w.heap.size w (w1.alloc (.cells #[.bool nb, .slice ab lb cb] 24)) := hbw.alloc (by omega) _
  have a12 := cell_keep a1 ((Below.refl w1.heap.size w1).alloc (Nat.le_refl _) (.cells #[.bool nb, .slice ab lb cb] 24))
  have b12 := cell_keep b1 ((Below.refl w1.heap.size w1).alloc (Nat.le_refl _) (.cells #[.bool nb, .slice ab lb cb] 24))
  have hlt2 : w.heap.size + 3 ≤ (w1.alloc (.cells #[.bool nb, .slice ab lb cb] 24)).heap.size := by simp; omega
  clear hb1 p1 p2 a0 a1 b0 b1 hA1 hB1 hbw hlt1 hsgn
  generalize w1.alloc (.cells #[.bool nb, .slice ab lb cb] 24) = wv at *
  go_region_held3 (fun w' => w'.cell? ⟨w.heap.size, 1, none⟩ = some (.slice aa la ca) ∧ w'.cell? ⟨w.heap.size + 1, 1, none⟩ = some (.slice ab lb cb)) (refine ⟨?_, ?_⟩ <;> first | assumption | (simp [go_sem]; assumption))
    (first
      | (go_at_call_of 71 (Value.slice aa la ca); refine (trim_any _ _ _ A _ ?_).mono ?_; (first | exact hA2 | exact hA2.drew); rintro e w5 ⟨rfl, rfl⟩)
      | (go_at_call_of 71 (Value.slice ab lb cb); refine (trim_any _ _ _ B _ ?_).mono ?_; (first | exact hB2 | exact hB2.drew); rintro e w5 ⟨rfl, rfl⟩)
      | (go_at_call 94; refine (divide_any _ _ _ (tl A) _ _ _ (tl B) _ ?_ ?_ (tl_top A) (tl_top B) (by omega) (by omega) (by rw [hvB.out]; exact HB0.out) hshort).mono ?_; (first | exact hA2.tl | exact hA2.tl.drew); (first | exact hB2.tl | exact hB2.tl.drew); rintro e w2 ⟨qo, ql, qc, ro, rl, rc, rfl, hdiv, hb2⟩; have a13 := cell_keep a12 (undrew hb2); have b13 := cell_keep b12 (undrew hb2)))
  obtain ⟨Q, R, hQ, hR, hval, hlt, hql, hrl⟩ := hdiv
  have HV := hid hval
  have HLT := hid hlt
  clear hval hlt
  go_wp2_with (go_at_call 71; refine (trim_any _ _ _ R _ hR).mono ?_; rintro e w5 ⟨rfl, rfl⟩)
  go_ret3
  refine ⟨_, _, _, _, _, _, rfl, ⟨Q, tl R, hQ, hR.tl, tl_top R, ?_, ?_, hql, ?_⟩, hbw2.trans ((undrew hb2).mono (by simp; omega))⟩
  · rw [← hvA.out, ← hvB.out, show val (tl R) = val R from tl_val R]; exact HV.out
  · rw [← hvB.out, show val (tl R) = val R from tl_val R]; exact HLT.out
  · have := tl_length_le R; have := hR.size; omega
end Go.Proofs.YtldafoojkimdeaaDoor
