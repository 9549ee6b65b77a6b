/- The document's answer on tables of operators: Copy. No condition but those that the theorem names. -/
import Derived.Test.YtnbhmgonijlplaaDoorT33
import Derived.Maps.AppendAt
import Derived.Lib.SmallJoins
namespace Go.Proofs.YtnbhmgonijlplaaDoor
open Go.RowKit Go.Joins

theorem cells_of_row {w : World} {base : Nat} {v : Value} {n : Nat} {xs : List Value} {g cap : Nat} (h : w.ownsRow base 39 3 v n xs) (hv : v = .slice (some ⟨g, 0, none⟩) n cap) : ∀ j u, xs[j]? = some u → w.cell? ((⟨g, 0, none⟩ : Addr).add j) = some u :=
  h.cells (g := g) (by rw [hv]; rfl)
theorem row_one (L : List Opn) : ∀ u ∈ rowOf L, u.oneCell' = true := by
  intro u hu
  obtain ⟨x, _, hx⟩ := List.mem_flatMap.1 hu
  simp [Opn.cells] at hx
  rcases hx with rfl | rfl | rfl <;> rfl
/-- 'append([]api.Op{}, l...)': a row of one's own. -/
theorem run_copy_row (w : World) (ty : TypeId) (g : Nat) (hg : w.heap[g]? = some (.cells #[] 39 (0, 0))) (v : Value) (base : Nat) (L : List Opn) (hv : w.ownsRow base 39 3 v L.length (rowOf L)) (hmax : L.length ≤ maxLen) (hby : L.length * 32 ≤ 140737488355328) :
    ∃ g' cap' w', (Builtin.append_ #[45, 45] ty #[.slice (some ⟨g, 0, none⟩) 0 0, v]).run Tryd.prog w = .ok (.slice (some ⟨g', 0, none⟩) L.length cap') w' ∧ w'.ownsRow g 39 3 (.slice (some ⟨g', 0, none⟩) L.length cap') L.length (rowOf L) ∧ w.grownBy w' (some g) := by
  obtain ⟨i0, hi, hz0, hz1, hz2⟩ := info_parts info39
  have hown : w.ownsRow g 39 3 (.slice (some ⟨g, 0, none⟩) 0 0) 0 [] := ⟨by simp, .inr ⟨g, 0, #[], rfl, Nat.le_refl _, hg, Nat.le_refl _, Nat.zero_le _, by simp, by simp⟩⟩
  have hlt := lt_of_block hg
  rcases hv.2 with ⟨rfl, h0⟩ | ⟨h, cap, cur, rfl, _⟩
  · have hL : L = [] := List.length_eq_zero_iff.1 h0
    subst hL
    refine ⟨g, 0, w, ?_, hown, ⟨rfl, rfl, rfl, Nat.le_refl _, fun _ _ _ => rfl⟩⟩
    simp [Builtin.append_, run_underlying Tryd.underlying45, sizeOf, typeInfo, hi, Builtin.lenOf, Builtin.firstCells, loadCells, loadCellsFrom, storeCells]
  · obtain ⟨v', w', hr, h2, h3, h4, _⟩ := run_append_own_at (P := Tryd.prog) w g 45 ty 39 i0 (.agg #[.string ⟨#[]⟩, .int .i64 0, .int .i64 0]) 3 32 Tryd.underlying45 hi hz0 hz1 hz2 rfl (by decide) _ 0 [] hown ⟨h, 0, none⟩ L.length cap (rowOf L) (rowOf_length L) (cells_of_row hv rfl) (row_one L) (by omega) (by omega) (by omega)
    rw [Nat.zero_add, List.nil_append] at h2
    rcases ownsRow_forms h2 with ⟨rfl, _⟩ | ⟨g', cap', rfl⟩
    · exact absurd (h4.1 rfl).1 (by simp)
    · exact ⟨g', cap', w', hr, h2, h3⟩
theorem wpList_copy_row (w : World) {ops : Array Oper} {rest : List Oper} {o : Oper} {a : Act} {Q : Exit → Act → World → Prop} (hgd : o.guard = none) (s x : Operand)
    (ho : o.op = .call { callee := .builtin .append, args := #[s, x], argTypes := #[45, 45] }) (g : Nat) (hs : a.eval s = .slice (some ⟨g, 0, none⟩) 0 0) (hg : w.heap[g]? = some (.cells #[] 39 (0, 0)))
    (v : Value) (base : Nat) (L : List Opn) (hx : a.eval x = v) (hv : w.ownsRow base 39 3 v L.length (rowOf L)) (hmax : L.length ≤ maxLen) (hby : L.length * 32 ≤ 140737488355328)
    (h : ∀ g' cap' w', w'.ownsRow g 39 3 (.slice (some ⟨g', 0, none⟩) L.length cap') L.length (rowOf L) → w.grownBy w' (some g) → wpList Tryd.prog ops Q rest (a.put o.dst (.slice (some ⟨g', 0, none⟩) L.length cap')) w') : wpList Tryd.prog ops Q (o :: rest) a w := by
  refine wpList_plain hgd fun K hK => ?_
  obtain ⟨g', cap', w', hr, h2, h3⟩ := run_copy_row w o.type g hg v base L hv hmax hby
  unfold Oper.wp execOp
  simp only [ho, resolve, invoke, builtin, Sem.run_bind, Sem.run_pure, Result.andThen_ok, List.map_toArray, List.map_cons, List.map_nil, hs, hx, hr]
  exact hK _ _ (h g' cap' w' h2 h3)

set_option maxRecDepth 100000 in
set_option maxHeartbeats 4000000 in
theorem refCopy (b : Nat) (L : List Opn) (w : World) (hT : RefAt w b L) (hmax : L.length ≤ maxLen) (hby : L.length * 32 ≤ 140737488355328) :
    Calls Tryd.prog 18 #[.pointer (some ⟨b, 0, none⟩)] w fun e w' => ∃ b', e = .returned (.pointer (some ⟨b', 0, none⟩)) ∧ w.heap.size ≤ b' ∧ RefAt w' b' L ∧ Below w.heap.size w w' := by
  obtain ⟨v, hB, hv⟩ := hT
  have hc : (w.alloc (.cells #[] 39)).cell? ⟨b, 0, none⟩ = some v := heap_cell_keep ((Below.refl _ _).alloc (Nat.le_refl _) _) hB.cell
  have HV := hid (row_keep hv ((Below.refl _ _).alloc (Nat.le_refl _) (.cells #[] 39)))
  clear hv hB
  go_enter Tryd.func18, Tryd.ntmps18
  go_wp2_with (at_builtin; refine wpList_copy_row _ rfl _ _ rfl w.heap.size rfl (heap_alloc_new w _) _ _ L rfl HV.out hmax hby ?_; intro g' cap' w1 hown hg; have HO := hid hown; have HG := hid hg; clear hown hg)
  go_ret
  have hs : w.heap.size ≤ w1.heap.size := by have := HG.out.size; simp at this; omega
  have hb1 : Below w.heap.size w w1 := ((Below.refl _ _).alloc (Nat.le_refl _) _).grown HG.out (by simp) (fun k e => by cases e; exact Nat.le_refl _)
  exact ⟨_, rfl, hs, ⟨_, Boxed.new w1 71 _, row_keep (ownsRow_base HO.out (Nat.zero_le _)) ((Below.refl _ _).alloc (Nat.le_refl _) _)⟩, hb1.alloc hs _⟩
end Go.Proofs.YtnbhmgonijlplaaDoor
