/- Walks: cmp.Compare at strings and at ints, cmp.Or of two. No condition. Walks: how two integers' texts stand: orderDigits, orderNums; rank; order, standard, Compare of two integers. No condition but those that each theorem names. Walks: order, standard, Compare of two integers. No condition but those that each theorem names. -/
import Derived.Sort.Walk0
import Derived.Sort.Grow
import Derived.WalkLawsBesides
import Derived.Test.YtkapejcbmonfkaaGreatDoorT2m
import Derived.Test.YtkapejcbmonfkaaGreatDoorT6m
import Derived.Test.YtkapejcbmonfkaaGreatDoorShelf
namespace Go.Proofs.YtkapejcbmonfkaaGreatDoor
open Go.RowKit Go.Sort

def cmpS (a b : List UInt8) : Int := if a < b then -1 else if b < a then 1 else 0
def cmpI (a b : Int) : Int := if a < b then -1 else if b < a then 1 else 0
theorem names_tri (a b : List UInt8) : a < b ∨ b < a ∨ a = b := by
  by_cases h : a < b
  · exact .inl h
  · by_cases k : b < a
    · exact .inr (.inl k)
    · exact .inr (.inr (List.le_antisymm (List.not_lt.1 k) (List.not_lt.1 h)))
theorem isNaN_any (s : ByteArray) (w : World) : Calls Tryz.prog 112 #[.string s] w fun e w' => e = .returned (.bool false) ∧ w = w' := by
  have h : (s.toList == s.toList) = true := by simp
  go_enter Tryz.func112, Tryz.ntmps112
  go_wp2
  go_ret
  exact ⟨by simp, rfl⟩
theorem or_first (b : Nat) (x _y : Int) (w : World) (hx : x ≠ 0) (h0 : w.cell? ⟨b, 0, none⟩ = some (.int .i64 x)) : Calls Tryz.prog 95 #[.slice (some ⟨b, 0, none⟩) 2 2] w fun e w' => e = .returned (.int .i64 x) ∧ w = w' := by
  have hn : (x == 0) = false := by simpa using hx
  go_enter Tryz.func95, Tryz.ntmps95
  go_wp2
  refine wp_loop_rounds 1 ?_
  rw [rounds_succ]
  go_wp2
  go_ret
  exact ⟨rfl, rfl⟩
theorem or_second (b : Nat) (y : Int) (w : World) (hy : y ≠ 0) (h0 : w.cell? ⟨b, 0, none⟩ = some (.int .i64 0)) (h1 : w.cell? ⟨b, 1, none⟩ = some (.int .i64 y)) : Calls Tryz.prog 95 #[.slice (some ⟨b, 0, none⟩) 2 2] w fun e w' => e = .returned (.int .i64 y) ∧ w = w' := by
  have hn : (y == 0) = false := by simpa using hy
  go_enter Tryz.func95, Tryz.ntmps95
  go_wp2
  refine wp_loop_rounds 2 ?_
  rw [rounds_succ]
  go_wp2
  rw [rounds_succ]
  go_wp2
  go_ret
  exact ⟨rfl, rfl⟩
theorem or_none (b : Nat) (w : World) (h0 : w.cell? ⟨b, 0, none⟩ = some (.int .i64 0)) (h1 : w.cell? ⟨b, 1, none⟩ = some (.int .i64 0)) : Calls Tryz.prog 95 #[.slice (some ⟨b, 0, none⟩) 2 2] w fun e w' => e = .returned (.int .i64 0) ∧ w = w' := by
  go_enter Tryz.func95, Tryz.ntmps95
  go_wp2
  refine wp_loop_rounds 3 ?_
  rw [rounds_succ]
  go_wp2
  rw [rounds_succ]
  go_wp2
  rw [rounds_succ]
  go_wp2
  go_ret
  exact ⟨rfl, rfl⟩
set_option maxRecDepth 100000 in
theorem compareS_any (a b : ByteArray) (w : World) : Calls Tryz.prog 96 #[.string a, .string b] w fun e w' => e = .returned (.int .i64 (cmpS a.data.toList b.data.toList)) ∧ w = w' := by
  obtain ⟨z, hz⟩ : ∃ z, z = cmpS a.data.toList b.data.toList := ⟨_, rfl⟩
  rw [← hz]
  unfold cmpS at hz
  have e1 : Op.bytesLess a.toList b.toList = decide (a.data.toList < b.data.toList) := by rw [bytesLess_eq, Lib.toList_data, Lib.toList_data]
  have e2 : (a.toList == b.toList) = decide (a.data.toList = b.data.toList) := by rw [Lib.toList_data, Lib.toList_data, Bool.eq_iff_iff, beq_iff_eq, decide_eq_true_iff]
  rcases names_tri a.data.toList b.data.toList with h | h | h
  · rw [if_pos h] at hz
    subst hz
    have h1 : Op.bytesLess a.toList b.toList = true := by rw [e1]; exact decide_eq_true h
    clear e1 e2 h
    go_enter Tryz.func96, Tryz.ntmps96
    go_wp2_with (go_at_call 112; (with_reducible refine (isNaN_any _ _).mono ?_); rintro e w' ⟨rfl, rfl⟩)
    go_ret
    exact ⟨rfl, rfl⟩
  · have n1 : ¬ a.data.toList < b.data.toList := fun k => List.lt_irrefl _ (List.lt_trans h k)
    have n2 : ¬ a.data.toList = b.data.toList := fun k => List.lt_irrefl _ (k ▸ h)
    rw [if_neg n1, if_pos h] at hz
    subst hz
    have h1 : Op.bytesLess a.toList b.toList = false := by rw [e1]; exact decide_eq_false n1
    have h2 : (a.toList == b.toList) = false := by rw [e2]; exact decide_eq_false n2
    clear e1 e2 h n1 n2
    go_enter Tryz.func96, Tryz.ntmps96
    go_wp2_with (go_at_call 112; (with_reducible refine (isNaN_any _ _).mono ?_); rintro e w' ⟨rfl, rfl⟩)
    go_ret
    exact ⟨rfl, rfl⟩
  · have n1 : ¬ a.data.toList < b.data.toList := fun k => List.lt_irrefl _ (h ▸ k)
    have n3 : ¬ b.data.toList < a.data.toList := fun k => List.lt_irrefl _ (h ▸ k)
    rw [if_neg n1, if_neg n3] at hz
    subst hz
    have h1 : Op.bytesLess a.toList b.toList = false := by rw [e1]; exact decide_eq_false n1
    have h2 : (a.toList == b.toList) = true := by rw [e2]; exact decide_eq_true h
    clear e1 e2 h n1 n3
    go_enter Tryz.func96, Tryz.ntmps96
    go_wp2_with (go_at_call 112; (with_reducible refine (isNaN_any _ _).mono ?_); rintro e w' ⟨rfl, rfl⟩)
    go_ret
    exact ⟨rfl, rfl⟩
theorem isNaNI_any (s : Int) (w : World) : Calls Tryz.prog 97 #[.int .i64 s] w fun e w' => e = .returned (.bool false) ∧ w = w' := by
  have h : (s != s) = false := by simp
  go_enter Tryz.func97, Tryz.ntmps97
  go_wp2
  go_ret
  exact ⟨rfl, rfl⟩
set_option maxRecDepth 100000 in
theorem compareI_any (x y : Int) (w : World) : Calls Tryz.prog 64 #[.int .i64 x, .int .i64 y] w fun e w' => e = .returned (.int .i64 (cmpI x y)) ∧ w = w' := by
  obtain ⟨z, hz⟩ : ∃ z, z = cmpI x y := ⟨_, rfl⟩
  rw [← hz]
  unfold cmpI at hz
  rcases (show x < y ∨ y < x ∨ (¬ x < y ∧ ¬ y < x) by omega) with h | h | ⟨h, h2⟩
  · rw [if_pos h] at hz
    subst hz
    go_enter Tryz.func64, Tryz.ntmps64
    go_wp2_with (go_at_call 97; (with_reducible refine (isNaNI_any _ _).mono ?_); rintro e w' ⟨rfl, rfl⟩)
    go_ret
    exact ⟨rfl, rfl⟩
  · have h2 : ¬ x < y := by omega
    rw [if_neg h2, if_pos h] at hz
    subst hz
    go_enter Tryz.func64, Tryz.ntmps64
    go_wp2_with (go_at_call 97; (with_reducible refine (isNaNI_any _ _).mono ?_); rintro e w' ⟨rfl, rfl⟩)
    go_ret
    exact ⟨rfl, rfl⟩
  · rw [if_neg h, if_neg h2] at hz
    subst hz
    go_enter Tryz.func64, Tryz.ntmps64
    go_wp2_with (go_at_call 97; (with_reducible refine (isNaNI_any _ _).mono ?_); rintro e w' ⟨rfl, rfl⟩)
    go_ret
    exact ⟨rfl, rfl⟩
/-- The first that is not nought. -/
def orI (x y : Int) : Int := if x = 0 then y else x
theorem or_any (b : Nat) (x y : Int) (w : World) (h0 : w.cell? ⟨b, 0, none⟩ = some (.int .i64 x)) (h1 : w.cell? ⟨b, 1, none⟩ = some (.int .i64 y)) : Calls Tryz.prog 95 #[.slice (some ⟨b, 0, none⟩) 2 2] w fun e w' => e = .returned (.int .i64 (orI x y)) ∧ w = w' := by
  unfold orI
  by_cases hx : x = 0
  · subst hx
    rw [if_pos rfl]
    by_cases hy : y = 0
    · subst hy; exact or_none b w h0 h1
    · exact or_second b y w hy h0 h1
  · rw [if_neg hx]; exact or_first b x y w hx h0
theorem cells_two {W : World} {b : Nat} {u v : Value} {t : TypeId} (h : W.heap[b]? = some (.cells #[u, v] t (0, 0))) : W.cell? ⟨b, 0, none⟩ = some u ∧ W.cell? ⟨b, 1, none⟩ = some v := ⟨by simp [World.cell?, h], by simp [World.cell?, h]⟩
theorem pair_cells (W : World) (u v : Value) (t : TypeId) : (W.alloc (.cells #[u, v] t)).drew.cell? ⟨W.heap.size, 0, none⟩ = some u ∧ (W.alloc (.cells #[u, v] t)).drew.cell? ⟨W.heap.size, 1, none⟩ = some v :=
  cells_two (W := (W.alloc (.cells #[u, v] t)).drew) (heap_alloc_new W (.cells #[u, v] t))
end Go.Proofs.YtkapejcbmonfkaaGreatDoor

namespace Go.Proofs.YtkapejcbmonfkaaGreatDoor
open Go.RowKit

/-- How two rows of digits stand. -/
def digitsWay (x y : ByteArray) : Int := orI (cmpI (x.size : Int) (y.size : Int)) (cmpS x.data.toList y.data.toList)
set_option maxRecDepth 100000 in
set_option maxHeartbeats 2000000 in
theorem orderDigits_any (x y : ByteArray) (w : World) (_hx : x.size ≤ maxLen) (_hy : y.size ≤ maxLen) : Calls Tryz.prog 111 #[.string x, .string y] w fun e w' => e = .returned (.int .i64 (digitsWay x y)) ∧ Below w.heap.size w w' := by
  unfold maxLen at _hx _hy
  have CS := hid (compareS_any x y)
  have CI := hid (compareI_any (x.size : Int) (y.size : Int))
  have HB := hid (fun (o : Obj) => (Below.refl w.heap.size w).alloc (Nat.le_refl _) o)
  obtain ⟨z, hz⟩ : ∃ z, z = digitsWay x y := ⟨_, rfl⟩
  rw [← hz]
  unfold digitsWay at hz
  have HZ := hid hz
  clear hz
  generalize cmpS x.data.toList y.data.toList = s at *
  generalize cmpI (x.size : Int) (y.size : Int) = i at *
  go_enter Tryz.func111, Tryz.ntmps111
  go_wp2_with (first
    | (go_at_call 64; (with_reducible refine (CI.out _).mono ?_); rintro e w' ⟨rfl, rfl⟩)
    | (go_at_call 96; (with_reducible refine (CS.out _).mono ?_); rintro e w' ⟨rfl, rfl⟩)
    | (go_at_call 95; (with_reducible refine (or_any _ i s _ (cells_two (heap_alloc_new w (.cells #[.int .i64 i, .int .i64 s] 3))).1 (cells_two (heap_alloc_new w (.cells #[.int .i64 i, .int .i64 s] 3))).2).mono ?_); rintro e w' ⟨rfl, rfl⟩))
  go_ret
  exact ⟨by rw [HZ.out]; rfl, HB.out _⟩
/-- The text behind a sign; is there one? -/
def bareT (s : ByteArray) : ByteArray := ⟨(Lib.trimPrefix s.data.toList [45]).toArray⟩
def negT (s : ByteArray) : Bool := Lib.hasPrefix s.data.toList [45]
/-- How two integers' texts stand. -/
def numsWay (a b : ByteArray) : Int := if negT a then (if negT b then digitsWay (bareT b) (bareT a) else -1) else (if negT b then 1 else digitsWay (bareT a) (bareT b))
set_option maxRecDepth 100000 in
set_option maxHeartbeats 2000000 in
theorem orderNums_any (a b : ByteArray) (w : World) (ha : (bareT a).size ≤ maxLen) (hb : (bareT b).size ≤ maxLen) : Calls Tryz.prog 94 #[.string a, .string b] w fun e w' => e = .returned (.int .i64 (numsWay a b)) ∧ Below w.heap.size w w' := by
  have C1 : ∀ s W, Calls Tryz.prog 110 #[.string s, .string ⟨#[45]⟩] W fun e w' => e = .returned (.tuple #[.string (bareT s), .bool (negT s)]) ∧ W = w' := fun s W =>
    (Tryz.strings_CutPrefix s ⟨#[45]⟩ W).mono fun e w' h => ⟨h.1, h.2.symm⟩
  have H1 := hid (C1 a)
  have H2 := hid (C1 b)
  have D1 := hid (fun W => orderDigits_any (bareT a) (bareT b) W ha hb)
  have D2 := hid (fun W => orderDigits_any (bareT b) (bareT a) W hb ha)
  obtain ⟨z, hz⟩ : ∃ z, z = numsWay a b := ⟨_, rfl⟩
  rw [← hz]
  unfold numsWay at hz
  have HZ := hid hz
  have HR := hid (Below.refl w.heap.size w)
  clear C1 hz ha hb
  generalize digitsWay (bareT a) (bareT b) = d1 at *
  generalize digitsWay (bareT b) (bareT a) = d2 at *
  generalize bareT a = ba at *
  generalize bareT b = bb at *
  generalize negT a = na at *
  generalize negT b = nb at *
  cases na <;> cases nb
  all_goals
    go_enter Tryz.func94, Tryz.ntmps94
    go_wp2_with (first
      | (go_at_call_of 110 (Value.string a); (with_reducible refine (H1.out _).mono ?_); rintro e w' ⟨rfl, rfl⟩)
      | (go_at_call_of 110 (Value.string b); (with_reducible refine (H2.out _).mono ?_); rintro e w' ⟨rfl, rfl⟩)
      | (go_at_call 111; (with_reducible refine (D1.out _).mono ?_); rintro e w2 ⟨rfl, hb2⟩; have HR := hid hb2; clear hb2)
      | (go_at_call 111; (with_reducible refine (D2.out _).mono ?_); rintro e w2 ⟨rfl, hb2⟩; have HR := hid hb2; clear hb2))
    go_ret
    exact ⟨ret_int (by rw [HZ.out]; simp), HR.out⟩
theorem rank_int (w : World) : Calls Tryz.prog 91 #[.int .i64 3] w fun e w' => e = .returned (.int .i64 2) ∧ w = w' := by
  go_enter Tryz.func91, Tryz.ntmps91
  go_wp2
  go_ret
  exact ⟨rfl, rfl⟩
end Go.Proofs.YtkapejcbmonfkaaGreatDoor

namespace Go.Proofs.YtkapejcbmonfkaaGreatDoor
open Go.RowKit

theorem cmp22 (w : World) : Calls Tryz.prog 64 #[.int .i64 2, .int .i64 2] w fun e w' => e = .returned (.int .i64 0) ∧ w' = w := (compareI_any 2 2 w).mono fun _e _w' h => ⟨h.1, h.2.symm⟩
set_option maxRecDepth 100000 in
set_option maxHeartbeats 4000000 in
theorem order_ints (t u : Tm) (p q : Option Addr) (cp cq : Nat) (w : World) (ht : t.kind = 3) (hu : u.kind = 3) (ha : (bareT t.num).size ≤ maxLen) (hb : (bareT u.num).size ≤ maxLen) :
    Calls Tryz.prog 62 #[t.val p cp, u.val q cq, .func (.func 64) #[] #[]] w fun e w' => e = .returned (.int .i64 (numsWay t.num u.num)) ∧ Below w.heap.size w w' := by
  obtain ⟨W0, hW0⟩ : ∃ W0, W0 = (w.alloc (tobj t p cp)).alloc (tobj u q cq) := ⟨_, rfl⟩
  have hB := hid (show Below w.heap.size w W0 by rw [hW0]; exact ((Below.refl w.heap.size w).alloc (Nat.le_refl _) _).alloc (by simp) _)
  have HS2 := hid (show W0.heap[w.heap.size + 1]? = some (tobj u q cq) by rw [hW0]; have h := heap_alloc_new (w.alloc (tobj t p cp)) (tobj u q cq); rwa [World.size_alloc] at h)
  have HS1 := hid (show W0.heap[w.heap.size]? = some (tobj t p cp) by rw [hW0]; exact (heap_alloc_old (w.alloc (tobj t p cp)) _ (by simp)).trans (heap_alloc_new w _))
  have C := hid (fun W => orderNums_any t.num u.num W ha hb)
  obtain ⟨x0, x1, x2, x3, x4, x5⟩ := six_of HS1.out
  obtain ⟨y0, y1, y2, y3, y4, y5⟩ := six_of HS2.out
  have KP := hid (fun (n : Nat) (o j : Nat) (v : Value) (h : W0.cell? ⟨o, j, none⟩ = some v) => (show (W0.drewN n).cell? ⟨o, j, none⟩ = some v from h))
  unfold tobj at hW0
  unfold Tm.val
  rw [ht] at x0 hW0 ⊢
  rw [hu] at y0 hW0 ⊢
  clear HS1 HS2 ht hu ha hb
  generalize numsWay t.num u.num = z at *
  generalize t.name = tn at *
  generalize u.name = un at *
  generalize t.num = tm at *
  generalize u.num = um at *
  generalize t.bits = tb at *
  generalize u.bits = ub at *
  generalize t.var = tv at *
  generalize u.var = uv at *
  generalize t.args.length = tl at *
  generalize u.args.length = ul at *
  go_enter Tryz.func62, Tryz.ntmps62
  go_wp2_with fail
  rw [← hW0]
  clear hW0
  go_quiet ((first | fail | (go_at_call 91; exact Calls.quiet_of_same ((rank_int _).mono fun e w' h => ⟨h.1, h.2.symm⟩)) | (go_at_call 64; exact Calls.quiet_of_same (cmp22 _))))
  go_wp2_with (go_at_call 94; (with_reducible refine (C.out _).mono ?_); rintro e w2 ⟨rfl, hb2⟩; have B2 := hid hb2; clear hb2)
  go_ret
  exact ⟨rfl, hB.out.trans ((show Below w.heap.size W0 (W0.drewN nq) from ⟨rfl, rfl, rfl, Nat.le_refl _, fun _ _ => rfl⟩).trans (B2.out.mono hB.out.size))⟩
set_option maxRecDepth 100000 in
set_option maxHeartbeats 4000000 in
theorem standard_ints (t u : Tm) (p q : Option Addr) (cp cq : Nat) (w : World) (ht : t.kind = 3) (hu : u.kind = 3) (ha : (bareT t.num).size ≤ maxLen) (hb : (bareT u.num).size ≤ maxLen) :
    Calls Tryz.prog 47 #[t.val p cp, u.val q cq] w fun e w' => e = .returned (.int .i64 (numsWay t.num u.num)) ∧ Below w.heap.size w w' := by
  have OI := fun W => order_ints t u p q cp cq W ht hu ha hb
  have hB := hid (((Below.refl w.heap.size w).alloc (Nat.le_refl _) (tobj t p cp)).alloc (by simp) (tobj u q cq))
  unfold tobj at hB
  unfold Tm.val at OI ⊢
  have HOI := hid OI
  clear OI ht hu ha hb
  generalize numsWay t.num u.num = z at *
  go_enter Tryz.func47, Tryz.ntmps47
  go_wp2_with (go_at_call 62; (with_reducible refine (HOI.out _).mono ?_); rintro e w2 ⟨rfl, hb2⟩; have B2 := hid (hB.out.trans (hb2.mono hB.out.size)); clear hb2)
  go_ret
  exact ⟨rfl, B2.out⟩
theorem obj_keep {w w' : World} {k : Nat} {o : Obj} (h : w.heap[k]? = some o) (hb : Below w.heap.size w w') : w'.heap[k]? = some o := (hb.block k (lt_of_block h)).trans h
/-- Two terms' cells. -/
def pobj (t u : Tm) (p q : Option Addr) (cp cq : Nat) : Obj := .cells #[.int .i64 t.kind, .string t.name, .string t.num, .int .u64 t.bits, .int .i64 t.var, .slice p t.args.length cp, .int .i64 u.kind, .string u.name, .string u.num, .int .u64 u.bits, .int .i64 u.var, .slice q u.args.length cq] 25
/-- Two terms in a row of two. -/
theorem row_two {W : World} {b : Nat} {t u : Tm} {p q : Option Addr} {cp cq : Nat} (h : W.heap[b]? = some (pobj t u p q cp cq))
    (ht : TmAt W t p) (hu : TmAt W u q) : RowT W [t, u] b 0 := by
  unfold RowT
  refine ⟨⟨p, cp, ⟨(cells_of h 0).trans rfl, (cells_of h 1).trans rfl, (cells_of h 2).trans rfl, (cells_of h 3).trans rfl, (cells_of h 4).trans rfl, (cells_of h 5).trans rfl⟩, ht⟩, ?_⟩
  unfold RowT
  refine ⟨⟨q, cq, ⟨(cells_of h 6).trans rfl, (cells_of h 7).trans rfl, (cells_of h 8).trans rfl, (cells_of h 9).trans rfl, (cells_of h 10).trans rfl, (cells_of h 11).trans rfl⟩, hu⟩, ?_⟩
  unfold RowT
  trivial
set_option maxRecDepth 100000 in
set_option maxHeartbeats 4000000 in
theorem compare_ints (vn vi : ByteArray → Bool) (vb : Int → Bool) (D : Tm → Prop) (t u : Tm) (p q : Option Addr) (cp cq : Nat) (w : World) (ht : t.kind = 3) (hu : u.kind = 3) (ha : (bareT t.num).size ≤ maxLen) (hb : (bareT u.num).size ≤ maxLen)
    (hT : TmAt w t p) (hU : TmAt w u q) (hO : Oracle vn vi vb D w) (hD : AllR D [t, u]) (he : checksErr vn vi vb [t, u] = 0) :
    Calls Tryz.prog 11 #[t.val p cp, u.val q cq] w fun e w' => e = .returned (.tuple #[.int .i64 (numsWay t.num u.num), .int .i64 0]) ∧ Below w.heap.size w w' := by
  obtain ⟨W0, hW0⟩ : ∃ W0, W0 = ((w.alloc (tobj t p cp)).alloc (tobj u q cq)).alloc (pobj t u p q cp cq) := ⟨_, rfl⟩
  have hB := hid (show Below w.heap.size w W0 by rw [hW0]; exact (((Below.refl w.heap.size w).alloc (Nat.le_refl _) _).alloc (by simp) _).alloc (by simp; omega) _)
  have hz : W0.heap.size = w.heap.size + 3 := by rw [hW0]; simp
  have HS3 := hid (show W0.heap[w.heap.size + 1 + 1]? = some (pobj t u p q cp cq) by rw [hW0]; have h := heap_alloc_new ((w.alloc (tobj t p cp)).alloc (tobj u q cq)) (pobj t u p q cp cq); rw [World.size_alloc, World.size_alloc] at h; exact h)
  have HS2 := hid (show W0.heap[w.heap.size + 1]? = some (tobj u q cq) by rw [hW0]; have h := heap_alloc_new (w.alloc (tobj t p cp)) (tobj u q cq); rw [World.size_alloc] at h; exact (heap_alloc_old _ _ (by simp)).trans h)
  have HS1 := hid (show W0.heap[w.heap.size]? = some (tobj t p cp) by rw [hW0]; exact (heap_alloc_old _ _ (by simp; omega)).trans ((heap_alloc_old (w.alloc (tobj t p cp)) _ (by simp)).trans (heap_alloc_new w _)))
  have CK := checks_any vn vi vb D [t, u] (some ⟨w.heap.size + 1 + 1, 0, none⟩) 2 W0 (by unfold maxLen; simp) (.inr ⟨_, _, rfl, row_two HS3.out (hT.keep hB.out) (hU.keep hB.out)⟩) (hO.keep hB.out) hD
  rw [he] at CK
  have HC := hid (show Calls Tryz.prog 46 #[.slice (some ⟨w.heap.size + 1 + 1, 0, none⟩) 2 2] W0 fun e w' => e = .returned (.int .i64 0) ∧ Below W0.heap.size W0 w' from CK)
  have OI := fun W => standard_ints t u p q cp cq W ht hu ha hb
  have HX := hid (fun (W : World) (hW : Below W0.heap.size W0 W) => And.intro (six_of (obj_keep HS1.out hW)) (six_of (obj_keep HS2.out hW)))
  obtain ⟨x0, x1, x2, x3, x4, x5⟩ := six_of HS1.out
  obtain ⟨y0, y1, y2, y3, y4, y5⟩ := six_of HS2.out
  unfold tobj pobj at hW0
  unfold Tm.val at OI ⊢
  have HOI := hid OI
  clear CK OI HS3 HS2 HS1 hT hU hO hD he ht hu ha hb
  generalize numsWay t.num u.num = z at *
  go_enter Tryz.func11, Tryz.ntmps11
  go_wp2_with (first
    | (go_at_call 46; rw [← hW0]; (with_reducible refine HC.out.mono ?_); rintro e w1 ⟨rfl, hb1⟩; have B1 := hid (hB.out.trans (hb1.mono hB.out.size)); obtain ⟨h1, h2⟩ := HX.out _ hb1; obtain ⟨a0, a1, a2, a3, a4, a5⟩ := h1; obtain ⟨b0, b1, b2, b3, b4, b5⟩ := h2; clear hb1 HC)
    | (go_at_call 47; (with_reducible refine (HOI.out _).mono ?_); rintro e w2 ⟨rfl, hb2⟩; have B2 := hid (B1.out.trans (hb2.mono B1.out.size)); clear hb2))
  go_ret2
  exact ⟨rfl, B2.out⟩
end Go.Proofs.YtkapejcbmonfkaaGreatDoor
