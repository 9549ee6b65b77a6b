/- A []ops.Op among a law's arguments, opened: its operators, each name within bounds, the whole within reach. -/
import Derived.Test.YtnbhmgonijlplaaDoorT13
import Derived.Test.YtnbhmgonijlplaaDoorT23
import Derived.Deep.Strs
namespace Go.Proofs.YtnbhmgonijlplaaDoor
open Go.ChangeShapes Go.WideShapes Go.ChangeAt Go.RowKit Go.Joins Go.Deep

theorem reads45 : Tryd.prog.readableRec 45 = true ∧ 45 < Tryd.prog.types.size := ⟨by kernel_rfl, of_decide_eq_true (by kernel_rfl)⟩
instance : Inhabited Opn := ⟨⟨ByteArray.empty, 0, 0⟩⟩
section
variable {H : Type} {enc : TypeId × Value → H} {W : World}

set_option maxRecDepth 100000 in
theorem open_ops {v : Value} {d : DataW H} {p : List MemPlace} {sp : Nat → Bool} {held : Bool} {r : Reach} {b0 : Nat} (hval : Value.okWide Tryd.prog W r b0 45 v) (h : DataW.Trod enc Tryd.prog W 0 sp held 45 v d p) :
    ∃ L : List Opn, OpsAt W v L ∧ (∀ y ∈ L, y.name.size ≤ maxLen) ∧ (L = [] ∨ ∃ es rest, d = .slice es rest ∧ es.length = L.length) := by
  obtain ⟨a1, len1, cap1, rfl⟩ := okWide_slice Tryd.underlying45 hval
  obtain ⟨fuel, hf⟩ := h
  rcases open_slice Tryd.underlying45 hf with ⟨hcs, hx⟩ | ⟨a, len, cap, m, n, D, Pl, hcs, hb, hl, hm, hmm, hx, hel⟩
  · simp [Value.cells] at hcs
    obtain ⟨rfl, rfl, rfl⟩ := hcs
    refine ⟨[], ⟨none, 0, rfl, fun i hi => absurd hi (by simp)⟩, ?_, Or.inl rfl⟩
    intro y hy
    cases hy
  · simp [Value.cells] at hcs
    obtain ⟨rfl, rfl, rfl⟩ := hcs
    simp only [Prod.mk.injEq] at hx
    obtain ⟨rfl, -⟩ := hx
    have hlm : len1 ≤ m := by rw [hmm]; split <;> omega
    have each : ∀ i, i < len1 → ∃ q : Opn, W.cell? (a.add (i * 3)) = some (.string q.name) ∧ W.cell? (a.add (i * 3 + 1)) = some (.int .i64 q.typ) ∧ W.cell? (a.add (i * 3 + 2)) = some (.int .i64 q.pri) ∧ q.name.size ≤ maxLen := by
      intro i hi
      obtain ⟨cs', h1, h2⟩ := hel i (by omega)
      rw [show Tryd.prog.cellsOf 39 = 3 by kernel_rfl] at h1
      obtain ⟨_, hlen, hcell⟩ := World.cells?_some h1
      obtain ⟨y0, y1, y2, k, hxy, _, u0, u1, u2⟩ := trod_struct3 Tryd.underlying39 h2
      match cs', hlen with
      | [v0, v1, v2], _ =>
        simp only [show Tryd.prog.cellsOf 9 = 1 by kernel_rfl, show Tryd.prog.cellsOf 3 = 1 by kernel_rfl, List.drop, List.take] at u0 u1 u2
        obtain ⟨s, e0, d0, z⟩ := DataW.trod_string Tryd.underlying9 u0
        obtain ⟨q, e1, d1, _⟩ := DataW.trod_int Tryd.underlying3 u1
        obtain ⟨p, e2, d2, _⟩ := DataW.trod_int Tryd.underlying3 u2
        simp only [List.cons.injEq, and_true] at e0 e1 e2
        subst e0; subst e1; subst e2
        have c0 := hcell 0 (by omega)
        have c1 := hcell 1 (by omega)
        have c2 := hcell 2 (by omega)
        rw [add_add] at c0 c1 c2
        exact ⟨⟨s, q, p⟩, by simpa using c0, by simpa using c1, by simpa using c2, z⟩
    obtain ⟨q, hq⟩ := choose_lt each
    refine ⟨(List.range len1).map q, ⟨some a, cap1, by simp, fun i hi => ?_⟩, fun y hy => ?_, Or.inr ⟨_, _, rfl, by simp⟩⟩
    · simp at hi
      obtain ⟨c0, c1, c2, _⟩ := hq i hi
      obtain ⟨xb, xo, spot⟩ := a
      have hspot : spot = none := by simpa [Addr.add] using World.cell?_spot (hq 0 (by omega)).1
      subst hspot
      rw [Addr.add_lit] at c0 c1 c2
      exact ⟨xb, xo, rfl, by simpa using c0, by simpa [Nat.add_assoc] using c1, by simpa [Nat.add_assoc] using c2⟩
    · simp at hy
      obtain ⟨i, hi, rfl⟩ := hy
      exact (hq i hi).2.2.2

set_option maxRecDepth 100000 in
/-- What an argument of this type weighs. -/
theorem ops_reach {ts : List TypeId} {ds : List (DataW H)} (hsz : (DataW.weightsEach Tryd.prog ts ds).all (· ≤ reachBytes) = true) {j : Nat} {d : DataW H} {L : List Opn} (ht : ts[j]? = some 45) (hd : ds[j]? = some d) (h : L = [] ∨ ∃ es rest, d = .slice es rest ∧ es.length = L.length) :
    L.length * 32 ≤ 140737488351232 := by
  rcases h with rfl | ⟨es, rest, rfl, he⟩
  · simp
  · have := sized_slice hsz ht hd Tryd.underlying45
    rw [show Tryd.prog.bytesOf 39 = 32 by kernel_rfl] at this
    simp only [reachBytes] at this
    omega
end
end Go.Proofs.YtnbhmgonijlplaaDoor
