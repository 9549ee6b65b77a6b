/- Walks: strings.Cut at the words of the types, side, Sides. No condition but those that each theorem names. -/
import Derived.Test.YtnbhmgonijlplaaDoorT4
import Derived.Test.YtnbhmgonijlplaaDoorShelf
namespace Go.Proofs.YtnbhmgonijlplaaDoor
open Go.RowKit

/-- The letters ahead of and behind the f of a type's word. -/
def lft (k : Int) : ByteArray := if k = 3 ∨ k = 4 ∨ k = 6 then ⟨#[120]⟩ else if k = 5 ∨ k = 7 then ⟨#[121]⟩ else ⟨#[]⟩
def rgt (k : Int) : ByteArray := if k = 1 ∨ k = 3 ∨ k = 5 then ⟨#[120]⟩ else if k = 2 ∨ k = 4 then ⟨#[121]⟩ else ⟨#[]⟩
def isT (k : Int) : Bool := decide (1 ≤ k ∧ k ≤ 7)
/-- What a letter says of a priority. -/
def sd (s : ByteArray) (p : Int) : Int := if s = ⟨#[120]⟩ then wrap64 (p - 1) else if s = ⟨#[121]⟩ then p else 0

theorem side_x (p : Int) (w : World) : Calls Tryd.prog 43 #[.string ⟨#[120]⟩, .int .i64 p] w fun e w' => e = .returned (.int .i64 (sd ⟨#[120]⟩ p)) ∧ w = w' := by
  go_enter Tryd.func43, Tryd.ntmps43
  go_wp2
  go_ret
  exact ⟨rfl, rfl⟩
theorem side_y (p : Int) (w : World) : Calls Tryd.prog 43 #[.string ⟨#[121]⟩, .int .i64 p] w fun e w' => e = .returned (.int .i64 (sd ⟨#[121]⟩ p)) ∧ w = w' := by
  go_enter Tryd.func43, Tryd.ntmps43
  go_wp2
  go_ret
  exact ⟨rfl, rfl⟩
theorem side_no (p : Int) (w : World) : Calls Tryd.prog 43 #[.string ⟨#[]⟩, .int .i64 p] w fun e w' => e = .returned (.int .i64 (sd ⟨#[]⟩ p)) ∧ w = w' := by
  go_enter Tryd.func43, Tryd.ntmps43
  go_wp2
  go_ret
  exact ⟨rfl, rfl⟩
theorem side_lft (k p : Int) (w : World) : Calls Tryd.prog 43 #[.string (lft k), .int .i64 p] w fun e w' => e = .returned (.int .i64 (sd (lft k) p)) ∧ w = w' := by
  unfold lft
  split
  · exact side_x p w
  · split
    · exact side_y p w
    · exact side_no p w
theorem side_rgt (k p : Int) (w : World) : Calls Tryd.prog 43 #[.string (rgt k), .int .i64 p] w fun e w' => e = .returned (.int .i64 (sd (rgt k) p)) ∧ w = w' := by
  unfold rgt
  split
  · exact side_x p w
  · split
    · exact side_y p w
    · exact side_no p w

theorem idxf (s : ByteArray) (n : Int) (h : Lib.indexByte s.data.toList 102 = n) (w : World) :
    Calls Tryd.prog 59 #[.string s, .string ⟨#[102]⟩] w fun e w' => e = .returned (.int .i64 n) ∧ w' = w := by rw [← h]; exact Tryd.stringslite_Index_one s 102 w
set_option maxRecDepth 100000 in
set_option maxHeartbeats 4000000 in
theorem cut51 (k : Int) (hk : 0 ≤ k ∧ k ≤ 7) (w : World) : Calls Tryd.prog 51 #[.string (wd k), .string ⟨#[102]⟩] w fun e w' => e = .returned (.tuple #[.string (lft k), .string (rgt k), .bool (isT k)]) ∧ Below w.heap.size w w' := by
  rcases (show k = 0 ∨ k = 1 ∨ k = 2 ∨ k = 3 ∨ k = 4 ∨ k = 5 ∨ k = 6 ∨ k = 7 by omega) with rfl | rfl | rfl | rfl | rfl | rfl | rfl | rfl
  · have h := hid (idxf ⟨#[]⟩ (-1) (by decide) w)
    show Calls Tryd.prog 51 #[.string ⟨#[]⟩, .string ⟨#[102]⟩] w _
    go_enter Tryd.func51, Tryd.ntmps51
    go_wp2_with (go_at_call 59; (with_reducible refine h.out.mono ?_); rintro e w1 ⟨rfl, rfl⟩)
    exact bodyPost_ret (v := .tuple #[.string (lft 0), .string (rgt 0), .bool (isT 0)]) (by simp [results, Tryd.results51, go_sem, lft, rgt, isT]) rfl ⟨rfl, Below.refl _ _⟩
  · have h := hid (idxf ⟨#[102, 120]⟩ (0) (by decide) w)
    show Calls Tryd.prog 51 #[.string ⟨#[102, 120]⟩, .string ⟨#[102]⟩] w _
    go_enter Tryd.func51, Tryd.ntmps51
    go_wp2_with (go_at_call 59; (with_reducible refine h.out.mono ?_); rintro e w1 ⟨rfl, rfl⟩)
    go_region
    go_wp2
    refine bodyPost_ret (v := .tuple #[.string (lft 1), .string (rgt 1), .bool (isT 1)]) ?_ rfl ⟨rfl, (Below.refl _ _).drew⟩
    (simp [results, Tryd.results51, go_sem]; try decide +kernel)
  · have h := hid (idxf ⟨#[102, 121]⟩ (0) (by decide) w)
    show Calls Tryd.prog 51 #[.string ⟨#[102, 121]⟩, .string ⟨#[102]⟩] w _
    go_enter Tryd.func51, Tryd.ntmps51
    go_wp2_with (go_at_call 59; (with_reducible refine h.out.mono ?_); rintro e w1 ⟨rfl, rfl⟩)
    go_region
    go_wp2
    refine bodyPost_ret (v := .tuple #[.string (lft 2), .string (rgt 2), .bool (isT 2)]) ?_ rfl ⟨rfl, (Below.refl _ _).drew⟩
    (simp [results, Tryd.results51, go_sem]; try decide +kernel)
  · have h := hid (idxf ⟨#[120, 102, 120]⟩ (1) (by decide) w)
    show Calls Tryd.prog 51 #[.string ⟨#[120, 102, 120]⟩, .string ⟨#[102]⟩] w _
    go_enter Tryd.func51, Tryd.ntmps51
    go_wp2_with (go_at_call 59; (with_reducible refine h.out.mono ?_); rintro e w1 ⟨rfl, rfl⟩)
    go_region
    go_wp2
    refine bodyPost_ret (v := .tuple #[.string (lft 3), .string (rgt 3), .bool (isT 3)]) ?_ rfl ⟨rfl, (Below.refl _ _).drew⟩
    (simp [results, Tryd.results51, go_sem]; try decide +kernel)
  · have h := hid (idxf ⟨#[120, 102, 121]⟩ (1) (by decide) w)
    show Calls Tryd.prog 51 #[.string ⟨#[120, 102, 121]⟩, .string ⟨#[102]⟩] w _
    go_enter Tryd.func51, Tryd.ntmps51
    go_wp2_with (go_at_call 59; (with_reducible refine h.out.mono ?_); rintro e w1 ⟨rfl, rfl⟩)
    go_region
    go_wp2
    refine bodyPost_ret (v := .tuple #[.string (lft 4), .string (rgt 4), .bool (isT 4)]) ?_ rfl ⟨rfl, (Below.refl _ _).drew⟩
    (simp [results, Tryd.results51, go_sem]; try decide +kernel)
  · have h := hid (idxf ⟨#[121, 102, 120]⟩ (1) (by decide) w)
    show Calls Tryd.prog 51 #[.string ⟨#[121, 102, 120]⟩, .string ⟨#[102]⟩] w _
    go_enter Tryd.func51, Tryd.ntmps51
    go_wp2_with (go_at_call 59; (with_reducible refine h.out.mono ?_); rintro e w1 ⟨rfl, rfl⟩)
    go_region
    go_wp2
    refine bodyPost_ret (v := .tuple #[.string (lft 5), .string (rgt 5), .bool (isT 5)]) ?_ rfl ⟨rfl, (Below.refl _ _).drew⟩
    (simp [results, Tryd.results51, go_sem]; try decide +kernel)
  · have h := hid (idxf ⟨#[120, 102]⟩ (1) (by decide) w)
    show Calls Tryd.prog 51 #[.string ⟨#[120, 102]⟩, .string ⟨#[102]⟩] w _
    go_enter Tryd.func51, Tryd.ntmps51
    go_wp2_with (go_at_call 59; (with_reducible refine h.out.mono ?_); rintro e w1 ⟨rfl, rfl⟩)
    go_region
    go_wp2
    refine bodyPost_ret (v := .tuple #[.string (lft 6), .string (rgt 6), .bool (isT 6)]) ?_ rfl ⟨rfl, (Below.refl _ _).drew⟩
    (simp [results, Tryd.results51, go_sem]; try decide +kernel)
  · have h := hid (idxf ⟨#[121, 102]⟩ (1) (by decide) w)
    show Calls Tryd.prog 51 #[.string ⟨#[121, 102]⟩, .string ⟨#[102]⟩] w _
    go_enter Tryd.func51, Tryd.ntmps51
    go_wp2_with (go_at_call 59; (with_reducible refine h.out.mono ?_); rintro e w1 ⟨rfl, rfl⟩)
    go_region
    go_wp2
    refine bodyPost_ret (v := .tuple #[.string (lft 7), .string (rgt 7), .bool (isT 7)]) ?_ rfl ⟨rfl, (Below.refl _ _).drew⟩
    (simp [results, Tryd.results51, go_sem]; try decide +kernel)
theorem wd_out (k : Int) (h : ¬ (0 ≤ k ∧ k ≤ 7)) : wd k = wd 0 ∧ lft k = lft 0 ∧ rgt k = rgt 0 ∧ isT k = isT 0 := by
  refine ⟨?_, ?_, ?_, ?_⟩
  · unfold wd
    rw [if_neg (by omega), if_neg (by omega), if_neg (by omega), if_neg (by omega), if_neg (by omega), if_neg (by omega), if_neg (by omega)]
    rfl
  · unfold lft
    rw [if_neg (by omega), if_neg (by omega)]
    rfl
  · unfold rgt
    rw [if_neg (by omega), if_neg (by omega)]
    rfl
  · have : ¬ (1 ≤ k ∧ k ≤ 7) := by omega
    unfold isT
    rw [decide_eq_false this]
    rfl
theorem cut51_any (k : Int) (w : World) : Calls Tryd.prog 51 #[.string (wd k), .string ⟨#[102]⟩] w fun e w' => e = .returned (.tuple #[.string (lft k), .string (rgt k), .bool (isT k)]) ∧ Below w.heap.size w w' := by
  by_cases h : 0 ≤ k ∧ k ≤ 7
  · exact cut51 k h w
  · obtain ⟨e1, e2, e3, e4⟩ := wd_out k h
    rw [e1, e2, e3, e4]
    exact cut51 0 (by omega) w
set_option maxRecDepth 100000 in
theorem cut42_any (k : Int) (w : World) : Calls Tryd.prog 42 #[.string (wd k), .string ⟨#[102]⟩] w fun e w' => e = .returned (.tuple #[.string (lft k), .string (rgt k), .bool (isT k)]) ∧ Below w.heap.size w w' := by
  have H := hid (cut51_any k w)
  generalize wd k = s at *
  generalize lft k = l at *
  generalize rgt k = r at *
  generalize isT k = q at *
  go_enter Tryd.func42, Tryd.ntmps42
  go_wp2_with (go_at_call 51; (with_reducible refine H.out.mono ?_); rintro e w1 ⟨rfl, hb⟩)
  exact bodyPost_ret (v := .tuple #[.string l, .string r, .bool q]) (by simp [results, Tryd.results42, go_sem]) rfl ⟨rfl, hb⟩

set_option maxRecDepth 100000 in
set_option maxHeartbeats 2000000 in
/-- Sides of an operator. -/
theorem sides_any (x : Opn) (w : World) (hw : Words w) : Calls Tryd.prog 19 #[x.val] w fun e w' => e = .returned (.tuple #[.int .i64 (sd (lft x.typ) x.pri), .int .i64 (sd (rgt x.typ) x.pri)]) ∧ Below w.heap.size w w' := by
  obtain ⟨nm, k, p⟩ := x
  unfold Opn.val
  simp only
  have HB := hid ((Below.refl w.heap.size w).alloc (Nat.le_refl _) (.cells #[.string nm, .int .i64 k, .int .i64 p] 39))
  have HX := hid (heap_alloc_new w (.cells #[.string nm, .int .i64 k, .int .i64 p] 39))
  have HW := hid (hw.keep hw.lt HB.out)
  clear hw
  have HL := hid (side_lft k p)
  have HR := hid (side_rgt k p)
  have HC := hid (cut42_any k)
  have HD := hid (fun w1 h => word_any k w1 h)
  generalize wd k = s at *
  generalize sd (lft k) p = vl at *
  generalize sd (rgt k) p = vr at *
  generalize lft k = l at *
  generalize rgt k = r at *
  generalize isT k = q at *
  go_enter Tryd.func19, Tryd.ntmps19
  go_wp2_with (first
    | (go_at_call 23; (with_reducible refine (HD.out _ HW.out).mono ?_); rintro e w1 ⟨rfl, rfl⟩)
    | (go_at_call 42; (with_reducible refine (HC.out _).mono ?_); rintro e w1 ⟨rfl, hb1⟩; obtain ⟨d0, d1, d2, g0, g1, g2⟩ := three_cells (heap_keep3 HX.out hb1)))
  have t2 := show w1.drew.cell? ⟨w.heap.size, 2, none⟩ = _ from d2
  have HB1 := hid hb1
  clear hb1
  go_region_held3 (fun w' => w'.cell? ⟨w.heap.size, 2, none⟩ = some (.int .i64 p))
    (first
      | (with_reducible exact d2)
      | (with_reducible exact t2))
    (first
      | (go_at_call 43; (with_reducible refine (HL.out _).mono ?_); rintro e w5 ⟨rfl, rfl⟩)
      | (go_at_call 43; (with_reducible refine (HR.out _).mono ?_); rintro e w5 ⟨rfl, rfl⟩))
  go_wp2
  refine bodyPost_ret (v := .tuple #[.int .i64 vl, .int .i64 vr]) (by simp [results, Tryd.results19, go_sem]) rfl ⟨rfl, ?_⟩
  exact (HB.out.trans (HB1.out.mono (by simp))).drew
end Go.Proofs.YtnbhmgonijlplaaDoor
