/- Walks: order, standard, Compare of two integers. No condition but those that each theorem names. -/
import Derived.Test.YtpdclfihleoigaaDoorT12
namespace Go.Proofs.YtpdclfihleoigaaDoor
open Go.RowKit

theorem cmp22 (w : World) : Calls Tryd.prog 36 #[.int .i64 2, .int .i64 2] w fun e w' => e = .returned (.int .i64 0) ∧ w' = w := (compareI_any 2 2 w).mono fun e w' h => ⟨h.1, h.2.symm⟩
set_option maxRecDepth 100000 in
set_option maxHeartbeats 4000000 in
theorem order_ints (t u : Tm) (p q : Option Addr) (cp cq : Nat) (w : World) (ht : t.kind = 3) (hu : u.kind = 3) (ha : (bareT t.num).size ≤ maxLen) (hb : (bareT u.num).size ≤ maxLen) :
    Calls Tryd.prog 35 #[t.val p cp, u.val q cq, .func (.func 36) #[] #[]] w fun e w' => e = .returned (.int .i64 (numsWay t.num u.num)) ∧ Below w.heap.size w w' := by
  obtain ⟨W0, hW0⟩ : ∃ W0, W0 = (w.alloc (tobj t p cp)).alloc (tobj u q cq) := ⟨_, rfl⟩
  have hB := hid (show Below w.heap.size w W0 by rw [hW0]; exact ((Below.refl w.heap.size w).alloc (Nat.le_refl _) _).alloc (by simp) _)
  have HS2 := hid (show W0.heap[w.heap.size + 1]? = some (tobj u q cq) by rw [hW0]; have h := heap_alloc_new (w.alloc (tobj t p cp)) (tobj u q cq); rwa [World.size_alloc] at h)
  have HS1 := hid (show W0.heap[w.heap.size]? = some (tobj t p cp) by rw [hW0]; exact (heap_alloc_old (w.alloc (tobj t p cp)) _ (by simp)).trans (heap_alloc_new w _))
  have C := hid (fun W => orderNums_any t.num u.num W ha hb)
  obtain ⟨x0, x1, x2, x3, x4, x5⟩ := six_of HS1.out
  obtain ⟨y0, y1, y2, y3, y4, y5⟩ := six_of HS2.out
  have KP := hid (fun (n : Nat) (o j : Nat) (v : Value) (h : W0.cell? ⟨o, j, none⟩ = some v) => (show (W0.drewN n).cell? ⟨o, j, none⟩ = some v from h))
  unfold tobj at hW0
  unfold Tm.val
  rw [ht] at x0 hW0 ⊢
  rw [hu] at y0 hW0 ⊢
  clear HS1 HS2 ht hu ha hb
  generalize numsWay t.num u.num = z at *
  generalize t.name = tn at *
  generalize u.name = un at *
  generalize t.num = tm at *
  generalize u.num = um at *
  generalize t.bits = tb at *
  generalize u.bits = ub at *
  generalize t.var = tv at *
  generalize u.var = uv at *
  generalize t.args.length = tl at *
  generalize u.args.length = ul at *
  go_enter Tryd.func35, Tryd.ntmps35
  go_wp2_with fail
  rw [← hW0]
  clear hW0
  go_quiet ((first | fail | (go_at_call 48; exact Calls.quiet_of_same ((rank_int _).mono fun e w' h => ⟨h.1, h.2.symm⟩)) | (go_at_call 36; exact Calls.quiet_of_same (cmp22 _))))
  go_wp2_with (go_at_call 51; (with_reducible refine (C.out _).mono ?_); rintro e w2 ⟨rfl, hb2⟩; have B2 := hid hb2; clear hb2)
  go_ret
  exact ⟨rfl, hB.out.trans ((show Below w.heap.size W0 (W0.drewN nq) from ⟨rfl, rfl, rfl, Nat.le_refl _, fun _ _ => rfl⟩).trans (B2.out.mono hB.out.size))⟩
set_option maxRecDepth 100000 in
set_option maxHeartbeats 4000000 in
theorem standard_ints (t u : Tm) (p q : Option Addr) (cp cq : Nat) (w : World) (ht : t.kind = 3) (hu : u.kind = 3) (ha : (bareT t.num).size ≤ maxLen) (hb : (bareT u.num).size ≤ maxLen) :
    Calls Tryd.prog 27 #[t.val p cp, u.val q cq] w fun e w' => e = .returned (.int .i64 (numsWay t.num u.num)) ∧ Below w.heap.size w w' := by
  have OI := fun W => order_ints t u p q cp cq W ht hu ha hb
  have hB := hid (((Below.refl w.heap.size w).alloc (Nat.le_refl _) (tobj t p cp)).alloc (by simp) (tobj u q cq))
  unfold tobj at hB
  unfold Tm.val at OI ⊢
  have HOI := hid OI
  clear OI ht hu ha hb
  generalize numsWay t.num u.num = z at *
  go_enter Tryd.func27, Tryd.ntmps27
  go_wp2_with (go_at_call 35; (with_reducible refine (HOI.out _).mono ?_); rintro e w2 ⟨rfl, hb2⟩; have B2 := hid (hB.out.trans (hb2.mono hB.out.size)); clear hb2)
  go_ret
  exact ⟨rfl, B2.out⟩
theorem obj_keep {w w' : World} {k : Nat} {o : Obj} (h : w.heap[k]? = some o) (hb : Below w.heap.size w w') : w'.heap[k]? = some o := (hb.block k (lt_of_block h)).trans h
/-- Two terms' cells. -/
def pobj (t u : Tm) (p q : Option Addr) (cp cq : Nat) : Obj := .cells #[.int .i64 t.kind, .string t.name, .string t.num, .int .u64 t.bits, .int .i64 t.var, .slice p t.args.length cp, .int .i64 u.kind, .string u.name, .string u.num, .int .u64 u.bits, .int .i64 u.var, .slice q u.args.length cq] 26
/-- Two terms in a row of two. -/
theorem row_two {W : World} {b : Nat} {t u : Tm} {p q : Option Addr} {cp cq : Nat} (h : W.heap[b]? = some (pobj t u p q cp cq))
    (ht : TmAt W t p) (hu : TmAt W u q) : RowT W [t, u] b 0 := by
  unfold RowT
  refine ⟨⟨p, cp, ⟨(cells_of h 0).trans rfl, (cells_of h 1).trans rfl, (cells_of h 2).trans rfl, (cells_of h 3).trans rfl, (cells_of h 4).trans rfl, (cells_of h 5).trans rfl⟩, ht⟩, ?_⟩
  unfold RowT
  refine ⟨⟨q, cq, ⟨(cells_of h 6).trans rfl, (cells_of h 7).trans rfl, (cells_of h 8).trans rfl, (cells_of h 9).trans rfl, (cells_of h 10).trans rfl, (cells_of h 11).trans rfl⟩, hu⟩, ?_⟩
  unfold RowT
  trivial
set_option maxRecDepth 100000 in
set_option maxHeartbeats 4000000 in
theorem compare_ints (vn vi : ByteArray → Bool) (vb : Int → Bool) (D : Tm → Prop) (t u : Tm) (p q : Option Addr) (cp cq : Nat) (w : World) (ht : t.kind = 3) (hu : u.kind = 3) (ha : (bareT t.num).size ≤ maxLen) (hb : (bareT u.num).size ≤ maxLen)
    (hT : TmAt w t p) (hU : TmAt w u q) (hO : Oracle vn vi vb D w) (hD : AllR D [t, u]) (he : checksErr vn vi vb [t, u] = 0) :
    Calls Tryd.prog 12 #[t.val p cp, u.val q cq] w fun e w' => e = .returned (.tuple #[.int .i64 (numsWay t.num u.num), .int .i64 0]) ∧ Below w.heap.size w w' := by
  obtain ⟨W0, hW0⟩ : ∃ W0, W0 = ((w.alloc (tobj t p cp)).alloc (tobj u q cq)).alloc (pobj t u p q cp cq) := ⟨_, rfl⟩
  have hB := hid (show Below w.heap.size w W0 by rw [hW0]; exact (((Below.refl w.heap.size w).alloc (Nat.le_refl _) _).alloc (by simp) _).alloc (by simp; omega) _)
  have hz : W0.heap.size = w.heap.size + 3 := by rw [hW0]; simp
  have HS3 := hid (show W0.heap[w.heap.size + 1 + 1]? = some (pobj t u p q cp cq) by rw [hW0]; have h := heap_alloc_new ((w.alloc (tobj t p cp)).alloc (tobj u q cq)) (pobj t u p q cp cq); rw [World.size_alloc, World.size_alloc] at h; exact h)
  have HS2 := hid (show W0.heap[w.heap.size + 1]? = some (tobj u q cq) by rw [hW0]; have h := heap_alloc_new (w.alloc (tobj t p cp)) (tobj u q cq); rw [World.size_alloc] at h; exact (heap_alloc_old _ _ (by simp)).trans h)
  have HS1 := hid (show W0.heap[w.heap.size]? = some (tobj t p cp) by rw [hW0]; exact (heap_alloc_old _ _ (by simp; omega)).trans ((heap_alloc_old (w.alloc (tobj t p cp)) _ (by simp)).trans (heap_alloc_new w _)))
  have CK := checks_any vn vi vb D [t, u] (some ⟨w.heap.size + 1 + 1, 0, none⟩) 2 W0 (by unfold maxLen; simp) (.inr ⟨_, _, rfl, row_two HS3.out (hT.keep hB.out) (hU.keep hB.out)⟩) (hO.keep hB.out) hD
  rw [he] at CK
  have HC := hid (show Calls Tryd.prog 26 #[.slice (some ⟨w.heap.size + 1 + 1, 0, none⟩) 2 2] W0 fun e w' => e = .returned (.int .i64 0) ∧ Below W0.heap.size W0 w' from CK)
  have OI := fun W => standard_ints t u p q cp cq W ht hu ha hb
  have HX := hid (fun (W : World) (hW : Below W0.heap.size W0 W) => And.intro (six_of (obj_keep HS1.out hW)) (six_of (obj_keep HS2.out hW)))
  obtain ⟨x0, x1, x2, x3, x4, x5⟩ := six_of HS1.out
  obtain ⟨y0, y1, y2, y3, y4, y5⟩ := six_of HS2.out
  unfold tobj pobj at hW0
  unfold Tm.val at OI ⊢
  have HOI := hid OI
  clear CK OI HS3 HS2 HS1 hT hU hO hD he ht hu ha hb
  generalize numsWay t.num u.num = z at *
  go_enter Tryd.func12, Tryd.ntmps12
  go_wp2_with (first
    | (go_at_call 26; rw [← hW0]; (with_reducible refine HC.out.mono ?_); rintro e w1 ⟨rfl, hb1⟩; have B1 := hid (hB.out.trans (hb1.mono hB.out.size)); obtain ⟨h1, h2⟩ := HX.out _ hb1; obtain ⟨a0, a1, a2, a3, a4, a5⟩ := h1; obtain ⟨b0, b1, b2, b3, b4, b5⟩ := h2; clear hb1 HC)
    | (go_at_call 27; (with_reducible refine (HOI.out _).mono ?_); rintro e w2 ⟨rfl, hb2⟩; have B2 := hid (B1.out.trans (hb2.mono B1.out.size)); clear hb2))
  go_ret2
  exact ⟨rfl, B2.out⟩
end Go.Proofs.YtpdclfihleoigaaDoor
