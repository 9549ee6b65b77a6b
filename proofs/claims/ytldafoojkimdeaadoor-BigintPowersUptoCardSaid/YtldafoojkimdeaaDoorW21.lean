/- Walks: divide, by one limb; divideBoth. -/
import Derived.Test.YtldafoojkimdeaaDoorW12
import Derived.Test.YtldafoojkimdeaaDoorW15
namespace Go.Proofs.YtldafoojkimdeaaDoor
open Go.RowKit Lm

/-- What 'divide' answers: quotient and remainder, both to be read. -/
def Divs (w' : World) (A B : Nat) (qo : Option Addr) (ql qc : Nat) (ro : Option Addr) (rl rc : Nat) : Prop :=
  ∃ Q R, Rd w' qo ql qc Q ∧ Rd w' ro rl rc R ∧ A = val Q * B + val R ∧ val R < B ∧ ql ≤ 300 ∧ rl ≤ 300

theorem Rd.nil (w : World) : Rd w none 0 0 [] := ⟨rfl, Ok.nil, Nat.le_refl _, by omega, fun h => by omega⟩

set_option maxRecDepth 100000 in
set_option maxHeartbeats 2000000 in
theorem divide_any (aa : Option Addr) (la ca : Nat) (A : List Nat) (ab : Option Addr) (lb cb : Nat) (B : List Nat) (w : World) (hA : Rd w aa la ca A) (hB : Rd w ab lb cb B) (tA : Top A) (tB : Top B) (hsm : la ≤ 300) (hsb : lb ≤ 300) (hb0 : 0 < val B) (hshort : lb ≤ 1) :
    Calls Tryd.prog 94 #[.slice aa la ca, .slice ab lb cb] w fun e w' => ∃ qo ql qc ro rl rc, e = .returned (.tuple #[.slice qo ql qc, .slice ro rl rc]) ∧ Divs w' (val A) (val B) qo ql qc ro rl rc ∧ Below w.heap.size w w' := by
  by_cases hlt : val A < val B
  · have hc : cmp (val A) (val B) < 0 := by unfold cmp; rw [if_pos hlt]; decide
    go_enter Tryd.func94, Tryd.ntmps94
    go_wp2_with (go_at_call 74; refine (compare_any _ _ _ A _ _ _ B _ hA hB tA tB).mono ?_; rintro e w5 ⟨rfl, q, rfl⟩)
    go_ret2
    exact ⟨_, _, _, _, _, _, rfl, ⟨[], A, Rd.nil _, hA.drewN q, by simp [val], hlt, by omega, hsm⟩, bdrew (Below.refl _ _) q⟩
  · have hc : ¬ cmp (val A) (val B) < 0 := by unfold cmp; rw [if_neg hlt]; split <;> decide
    obtain ⟨b, rfl⟩ : ∃ b, B = [b] := by
      have := hB.size
      match B, this with
      | [], _ => simp [val] at hb0
      | [b], _ => exact ⟨b, rfl⟩
      | x :: y :: l, h => simp at h; omega
    have h1 : lb = 1 := by have := hB.size; simpa using this.symm
    subst h1
    have hvb : val [b] = b := by simp [val]
    have hbl : b < 4294967296 := hB.ok.head
    rw [hvb] at hb0
    obtain ⟨bb, off, rfl, hcb⟩ := hB.cells (by omega)
    have hcell := hcb 0 (by omega)
    have hdg : dg [b] 0 = b := rfl
    rw [hdg, Nat.add_zero] at hcell
    clear hcb hdg
    have HVB := hid hvb
    clear hvb
    go_enter Tryd.func94, Tryd.ntmps94
    go_wp2_with (first
      | (go_at_call 74; refine (compare_any _ _ _ A _ _ _ [b] _ hA hB tA tB).mono ?_; rintro e w5 ⟨rfl, q, rfl⟩)
      | (go_at_call 114; refine (divideSmall_any _ _ _ A b _ (hA.drewN q) (by omega) hb0 hbl).mono ?_; rintro e w2 ⟨g, Q, r, rfl, hg, hR, hQ, hok, hval, hr, hb2⟩; have HQ := hid hQ; have HV := hid hval; clear hQ hval))
    go_ret2
    have hq := hR.whole hok _ (Nat.le_refl _) (by have := HQ.out; omega)
    refine ⟨_, _, _, _, _, _, rfl, ⟨Q, [r], hq.alloc _, ?_, ?_, ?_, by have := HQ.out; omega, by omega⟩, ((undrewN hb2).alloc (undrewN hb2).size _)⟩
    · have e : #[Value.int IntKind.u32 (r : Int)] = u32s [r] := by simp [u32s]
      rw [e]
      exact (Rw.new w2 [r]).whole (Ok.nil.cons (by omega)) 1 (by simp) (by omega)
    · rw [HV.out, HVB.out]; simp [val]
    · rw [HVB.out]; simpa [val] using hr
end Go.Proofs.YtldafoojkimdeaaDoor
