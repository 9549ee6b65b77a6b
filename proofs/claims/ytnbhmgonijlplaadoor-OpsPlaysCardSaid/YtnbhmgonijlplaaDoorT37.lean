/- One operator more at a slice of one's own: the walk's step, in two strides (so that it falls fast where another builtin is called). -/
import Derived.Test.YtnbhmgonijlplaaDoorT34
namespace Go.Proofs.YtnbhmgonijlplaaDoor
open Go.RowKit Go.Joins

theorem cells_in3 {w : World} {g : Nat} {y : Opn} (hg : w.heap[g]? = some (.cells #[.string y.name, .int .i64 y.typ, .int .i64 y.pri] 39 (0, 0))) : ∀ j u, y.cells[j]? = some u → w.cell? ((⟨g, 0, none⟩ : Addr).add j) = some u := by
  intro j u hj
  obtain ⟨c0, c1, c2, _⟩ := three_cells hg
  match j, hj with
  | 0, hj => simp [Opn.cells] at hj; subst hj; simpa [Addr.add] using c0
  | 1, hj => simp [Opn.cells] at hj; subst hj; simpa [Addr.add] using c1
  | 2, hj => simp [Opn.cells] at hj; subst hj; simpa [Addr.add] using c2
theorem wpList_app3 {w : World} {ops : Array Oper} {rest : List Oper} {o : Oper} {a : Act} {Q : Exit → Act → World → Prop} (hgd : o.guard = none) (s x : Operand)
    (ho : o.op = .call { callee := .builtin .append, args := #[s, x], argTypes := #[45, 45] })
    (h : ∃ (base k : Nat) (xs : List Value) (y : Opn) (c : Nat) (v : Value), a.eval s = v ∧ w.ownsRow base 39 3 v k xs ∧ (∃ g, a.eval x = .slice (some ⟨g, 0, none⟩) 1 c ∧ w.heap[g]? = some (.cells #[.string y.name, .int .i64 y.typ, .int .i64 y.pri] 39 (0, 0))) ∧ k + 1 ≤ maxLen ∧ (k + 1) * 32 ≤ 140737488355328 ∧ base ≤ w.heap.size ∧
      ∀ g' cap' w', w'.ownsRow base 39 3 (.slice (some ⟨g', 0, none⟩) (k + 1) cap') (k + 1) (xs ++ y.cells) → w.grownBy w' v.ownBlock → wpList Tryd.prog ops Q rest (a.put o.dst (.slice (some ⟨g', 0, none⟩) (k + 1) cap')) w') : wpList Tryd.prog ops Q (o :: rest) a w := by
  obtain ⟨base, k, xs, y, c, v, hs, hown, ⟨g, hx, hg⟩, hm, hb, hbase, hK⟩ := h
  obtain ⟨i0, hi, hz0, hz1, hz2⟩ := info_parts info39
  refine wpList_append_own w hgd s x 45 ho base 39 i0 (.agg #[.string ⟨#[]⟩, .int .i64 0, .int .i64 0]) 3 32 Tryd.underlying45 hi hz0 hz1 hz2 rfl (by decide) v k xs hs hown ⟨g, 0, none⟩ 1 c y.cells hx rfl (cells_in3 hg) (by simp [Opn.cells, Value.oneCell']) hm hb hbase ?_
  intro v' w' h1 h2 _
  obtain ⟨g', cap', rfl⟩ := ownsRow_form h1 (by omega)
  exact hK g' cap' w' h1 h2
end Go.Proofs.YtnbhmgonijlplaaDoor
