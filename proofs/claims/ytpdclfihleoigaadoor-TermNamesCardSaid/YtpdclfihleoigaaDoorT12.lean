/- Walks: how two integers' texts stand: orderDigits, orderNums; rank; order, standard, Compare of two integers. No condition but those that each theorem names. -/
import Derived.Test.YtpdclfihleoigaaDoorT6
import Derived.Test.YtpdclfihleoigaaDoorT11
import Derived.Test.YtpdclfihleoigaaDoorShelf
namespace Go.Proofs.YtpdclfihleoigaaDoor
open Go.RowKit

/-- How two rows of digits stand. -/
def digitsWay (x y : ByteArray) : Int := orI (cmpI (x.size : Int) (y.size : Int)) (cmpS x.data.toList y.data.toList)
set_option maxRecDepth 100000 in
set_option maxHeartbeats 2000000 in
theorem orderDigits_any (x y : ByteArray) (w : World) (hx : x.size ≤ maxLen) (hy : y.size ≤ maxLen) : Calls Tryd.prog 65 #[.string x, .string y] w fun e w' => e = .returned (.int .i64 (digitsWay x y)) ∧ Below w.heap.size w w' := by
  unfold maxLen at hx hy
  have CS := hid (compareS_any x y)
  have CI := hid (compareI_any (x.size : Int) (y.size : Int))
  have HB := hid (fun (o : Obj) => (Below.refl w.heap.size w).alloc (Nat.le_refl _) o)
  obtain ⟨z, hz⟩ : ∃ z, z = digitsWay x y := ⟨_, rfl⟩
  rw [← hz]
  unfold digitsWay at hz
  have HZ := hid hz
  clear hz
  generalize cmpS x.data.toList y.data.toList = s at *
  generalize cmpI (x.size : Int) (y.size : Int) = i at *
  go_enter Tryd.func65, Tryd.ntmps65
  go_wp2_with (first
    | (go_at_call 36; (with_reducible refine (CI.out _).mono ?_); rintro e w' ⟨rfl, rfl⟩)
    | (go_at_call 53; (with_reducible refine (CS.out _).mono ?_); rintro e w' ⟨rfl, rfl⟩)
    | (go_at_call 52; (with_reducible refine (or_any _ i s _ (cells_two (heap_alloc_new w (.cells #[.int .i64 i, .int .i64 s] 3))).1 (cells_two (heap_alloc_new w (.cells #[.int .i64 i, .int .i64 s] 3))).2).mono ?_); rintro e w' ⟨rfl, rfl⟩))
  go_ret
  exact ⟨by rw [HZ.out]; rfl, HB.out _⟩
/-- The text behind a sign; is there one? -/
def bareT (s : ByteArray) : ByteArray := ⟨(Lib.trimPrefix s.data.toList [45]).toArray⟩
def negT (s : ByteArray) : Bool := Lib.hasPrefix s.data.toList [45]
/-- How two integers' texts stand. -/
def numsWay (a b : ByteArray) : Int := if negT a then (if negT b then digitsWay (bareT b) (bareT a) else -1) else (if negT b then 1 else digitsWay (bareT a) (bareT b))
set_option maxRecDepth 100000 in
set_option maxHeartbeats 2000000 in
theorem orderNums_any (a b : ByteArray) (w : World) (ha : (bareT a).size ≤ maxLen) (hb : (bareT b).size ≤ maxLen) : Calls Tryd.prog 51 #[.string a, .string b] w fun e w' => e = .returned (.int .i64 (numsWay a b)) ∧ Below w.heap.size w w' := by
  have C1 : ∀ s W, Calls Tryd.prog 64 #[.string s, .string ⟨#[45]⟩] W fun e w' => e = .returned (.tuple #[.string (bareT s), .bool (negT s)]) ∧ W = w' := fun s W =>
    (Tryd.strings_CutPrefix s ⟨#[45]⟩ W).mono fun e w' h => ⟨h.1, h.2.symm⟩
  have H1 := hid (C1 a)
  have H2 := hid (C1 b)
  have D1 := hid (fun W => orderDigits_any (bareT a) (bareT b) W ha hb)
  have D2 := hid (fun W => orderDigits_any (bareT b) (bareT a) W hb ha)
  obtain ⟨z, hz⟩ : ∃ z, z = numsWay a b := ⟨_, rfl⟩
  rw [← hz]
  unfold numsWay at hz
  have HZ := hid hz
  have HR := hid (Below.refl w.heap.size w)
  clear C1 hz ha hb
  generalize digitsWay (bareT a) (bareT b) = d1 at *
  generalize digitsWay (bareT b) (bareT a) = d2 at *
  generalize bareT a = ba at *
  generalize bareT b = bb at *
  generalize negT a = na at *
  generalize negT b = nb at *
  cases na <;> cases nb
  all_goals
    go_enter Tryd.func51, Tryd.ntmps51
    go_wp2_with (first
      | (go_at_call_of 64 (Value.string a); (with_reducible refine (H1.out _).mono ?_); rintro e w' ⟨rfl, rfl⟩)
      | (go_at_call_of 64 (Value.string b); (with_reducible refine (H2.out _).mono ?_); rintro e w' ⟨rfl, rfl⟩)
      | (go_at_call 65; (with_reducible refine (D1.out _).mono ?_); rintro e w2 ⟨rfl, hb2⟩; have HR := hid hb2; clear hb2)
      | (go_at_call 65; (with_reducible refine (D2.out _).mono ?_); rintro e w2 ⟨rfl, hb2⟩; have HR := hid hb2; clear hb2))
    go_ret
    exact ⟨ret_int (by rw [HZ.out]; simp), HR.out⟩
theorem rank_int (w : World) : Calls Tryd.prog 48 #[.int .i64 3] w fun e w' => e = .returned (.int .i64 2) ∧ w = w' := by
  go_enter Tryd.func48, Tryd.ntmps48
  go_wp2
  go_ret
  exact ⟨rfl, rfl⟩
end Go.Proofs.YtpdclfihleoigaaDoor
