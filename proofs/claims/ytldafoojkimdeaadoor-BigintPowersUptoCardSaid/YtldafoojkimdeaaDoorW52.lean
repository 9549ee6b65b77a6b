/- The law BigintParts, region by region. -/
import Derived.Test.YtldafoojkimdeaaDoorW51m
namespace Go.Proofs.YtldafoojkimdeaaDoor
open Go.RowKit Lm

theorem rd_nil0 (w : World) : Rd w none 0 0 [] := ⟨rfl, Ok.nil, Nat.le_refl _, by omega, fun h => by omega⟩
theorem Bx.new2 {w : World} {o : Obj} {n : Bool} {ao : Option Addr} {len cap : Nat} {A : List Nat} {v : Int} (h : Rd w ao len cap A) (e : num n A = v) : Bx ((w.alloc o).alloc (.cells #[.bool n, .slice ao len cap] 24)) (w.heap.size + 1) v := by
  have := Bx.new (h.alloc o) e
  rwa [show (w.alloc o).heap.size = w.heap.size + 1 by simp] at this
theorem below_new {w w' : World} {o : Obj} (h : w.alloc o = w') : Below w.heap.size w w' := by
  rw [← h]; exact (Below.refl _ _).alloc (Nat.le_refl _) _
theorem sign_three (x : Int) : (x.sign = 1 ∧ 0 < x) ∨ (x.sign = 0 ∧ x = 0) ∨ (x.sign = -1 ∧ x < 0) := by
  rcases Int.lt_trichotomy x 0 with h | h | h
  · exact .inr (.inr ⟨Int.sign_eq_neg_one_of_neg h, h⟩)
  · exact .inr (.inl ⟨by rw [h]; rfl, h⟩)
  · exact .inl ⟨Int.sign_eq_one_of_pos h, h⟩
theorem sign_ne {x : Int} (h : x ≠ 0) : x.sign = 1 ∨ x.sign = -1 := by
  rcases sign_three x with ⟨h1, _⟩ | ⟨_, h2⟩ | ⟨h1, _⟩
  · exact .inl h1
  · exact absurd h2 h
  · exact .inr h1
theorem abs_less {r b : Int} (h : r.natAbs < b.natAbs) : ((r.natAbs : Int) - (b.natAbs : Int)).sign = -1 := Int.sign_eq_neg_one_of_neg (by omega)
theorem sign_trunc {a b q r : Int} (h : TruncDiv a b q r) : r.sign = 0 ∨ (r.sign = 1 ∧ a.sign = 1) ∨ (r.sign = -1 ∧ a.sign = -1) := by
  obtain ⟨h1, h2, h3, h4⟩ := h
  rcases sign_three r with ⟨x1, x2⟩ | ⟨x1, x2⟩ | ⟨x1, x2⟩ <;> rcases sign_three a with ⟨y1, y2⟩ | ⟨y1, y2⟩ | ⟨y1, y2⟩ <;> rw [x1, y1] <;> first | decide | (exfalso; omega)
theorem sign_floor {a b q r : Int} (h : Floors a b q r) : r.sign = 0 ∨ (r.sign = 1 ∧ b.sign = 1) ∨ (r.sign = -1 ∧ b.sign = -1) := by
  obtain ⟨h1, h2, h3, h4⟩ := h
  rcases sign_three r with ⟨x1, x2⟩ | ⟨x1, x2⟩ | ⟨x1, x2⟩ <;> rcases sign_three b with ⟨y1, y2⟩ | ⟨y1, y2⟩ | ⟨y1, y2⟩ <;> rw [x1, y1] <;> first | decide | (exfalso; omega)
def ApIs (ap : Bool) (q d : Int) : Prop := ap = true ↔ ¬ q = d
theorem sign_apart (x y : Int) : ((x - y).sign = 0 ∧ ApIs false x y) ∨ ((x - y).sign = 1 ∧ ApIs true x y) ∨ ((x - y).sign = -1 ∧ ApIs true x y) := by
  rcases sign_three (x - y) with ⟨h1, h2⟩ | ⟨h1, h2⟩ | ⟨h1, h2⟩
  · exact .inr (.inl ⟨h1, (by unfold ApIs; simp; omega)⟩)
  · exact .inl ⟨h1, (by unfold ApIs; simp; omega)⟩
  · exact .inr (.inr ⟨h1, (by unfold ApIs; simp; omega)⟩)
theorem ap_cases {a b q r d m : Int} {ap : Bool} (h0 : b ≠ 0) (h : TruncDiv a b q r) (k : Floors a b d m) (hap : ApIs ap q d) :
    (ap = false ∧ r.sign = 0) ∨ (ap = false ∧ r.sign = 1 ∧ a.sign = 1 ∧ b.sign = 1) ∨ (ap = false ∧ r.sign = -1 ∧ a.sign = -1 ∧ b.sign = -1) ∨ (ap = true ∧ r.sign = 1 ∧ a.sign = 1 ∧ b.sign = -1) ∨ (ap = true ∧ r.sign = -1 ∧ a.sign = -1 ∧ b.sign = 1) := by
  unfold ApIs at hap
  rw [quo_apart h0 h k] at hap
  rcases sign_trunc h with hr | ⟨hr, ha⟩ | ⟨hr, ha⟩
  · refine .inl ⟨?_, hr⟩
    have : r = 0 := Int.sign_eq_zero_iff_zero.1 hr
    simp [this] at hap
    exact hap
  · have hn : r ≠ 0 := by intro e; rw [e] at hr; cases hr
    rcases sign_ne h0 with hb | hb
    · refine .inr (.inl ⟨?_, hr, ha, hb⟩)
      simp [hn, ha, hb] at hap; exact hap
    · refine .inr (.inr (.inr (.inl ⟨?_, hr, ha, hb⟩)))
      simp [hn, ha, hb] at hap; exact hap
  · have hn : r ≠ 0 := by intro e; rw [e] at hr; cases hr
    rcases sign_ne h0 with hb | hb
    · refine .inr (.inr (.inr (.inr ⟨?_, hr, ha, hb⟩)))
      simp [hn, ha, hb] at hap; exact hap
    · refine .inr (.inr (.inl ⟨?_, hr, ha, hb⟩))
      simp [hn, ha, hb] at hap; exact hap
noncomputable def tail11 (n : Nat) : Code := seqDrop n (Tryd.f11.body.getD .skip)
noncomputable def head11 (n : Nat) : Code := seqHead (tail11 n)
noncomputable def Q11 (w : World) : Exit → Act → World → Prop := bodyPost Tryd.prog Tryd.f11 fun e w' => e = .returned (.bool true) ∧ Below w.heap.size w w'

end Go.Proofs.YtldafoojkimdeaaDoor
