/- A []Call among a law's arguments, opened: its calls, each number and name within bounds, the whole within reach. -/
import Derived.Test.YtnbhmgonijlplaaDoorT13
import Derived.Test.YtnbhmgonijlplaaDoorT31
import Derived.Test.YtnbhmgonijlplaaDoorT47
import Derived.Deep.Strs
namespace Go.Proofs.YtnbhmgonijlplaaDoor
open Go.ChangeShapes Go.WideShapes Go.ChangeAt Go.RowKit Go.Joins Go.Deep

theorem reads22 : Tryd.prog.readableRec 22 = true ∧ 22 < Tryd.prog.types.size := ⟨by kernel_rfl, of_decide_eq_true (by kernel_rfl)⟩
instance : Inhabited Cl := ⟨⟨0, 0, 0, 0, 0, ByteArray.empty⟩⟩
theorem wf_bounds {n : Int} (h : (Lit.int .i64 n).wf = true) : -9223372036854775808 ≤ n ∧ n ≤ 9223372036854775807 := by
  have h1 : IntKind.i64.min = -9223372036854775808 := by decide +kernel
  have h2 : IntKind.i64.max = 9223372036854775807 := by decide +kernel
  simp [Lit.wf, h1, h2] at h
  omega
section
variable {H : Type} {enc : TypeId × Value → H} {W : World}

theorem trod_struct6 {P : Program} {base : Nat} {spare : Nat → Bool} {held : Bool} {t : TypeId} {f0 f1 f2 f3 f4 f5 : Field} {fuel : Nat} {cs : List Value} {x : DataW H × List MemPlace} (ht : P.underlying t = some (.struct #[f0, f1, f2, f3, f4, f5])) (h : DataW.trod enc P W base spare held fuel t cs = some x) :
    ∃ y0 y1 y2 y3 y4 y5 n, cs.length = P.cellsOf t ∧ DataW.trod enc P W base spare held n f0.type ((cs.drop f0.offset).take (P.cellsOf f0.type)) = some y0 ∧
      DataW.trod enc P W base spare held n f1.type ((cs.drop f1.offset).take (P.cellsOf f1.type)) = some y1 ∧ DataW.trod enc P W base spare held n f2.type ((cs.drop f2.offset).take (P.cellsOf f2.type)) = some y2 ∧
      DataW.trod enc P W base spare held n f3.type ((cs.drop f3.offset).take (P.cellsOf f3.type)) = some y3 ∧ DataW.trod enc P W base spare held n f4.type ((cs.drop f4.offset).take (P.cellsOf f4.type)) = some y4 ∧
      DataW.trod enc P W base spare held n f5.type ((cs.drop f5.offset).take (P.cellsOf f5.type)) = some y5 := by
  obtain ⟨xs, n, _, rfl, hl, hlen, hf⟩ := DataW.trod_struct ht h
  match xs, hlen with
  | [y0, y1, y2, y3, y4, y5], _ => exact ⟨y0, y1, y2, y3, y4, y5, n, hl, by simpa using hf 0 f0 rfl, by simpa using hf 1 f1 rfl, by simpa using hf 2 f2 rfl, by simpa using hf 3 f3 rfl, by simpa using hf 4 f4 rfl, by simpa using hf 5 f5 rfl⟩

/-- A call whose numbers and name are within bounds. -/
structure Cl.Ok (c : Cl) : Prop where
  name : c.name.size ≤ maxLen
  on : -9223372036854775808 ≤ c.on ∧ c.on ≤ 9223372036854775807
  n : -9223372036854775808 ≤ c.n ∧ c.n ≤ 9223372036854775807
set_option maxRecDepth 100000 in
theorem open_calls {v : Value} {d : DataW H} {p : List MemPlace} {sp : Nat → Bool} {held : Bool} {r : Reach} {b0 : Nat} (hval : Value.okWide Tryd.prog W r b0 22 v) (h : DataW.Trod enc Tryd.prog W 0 sp held 22 v d p) :
    ∃ L : List Cl, ClsAt W v L ∧ (∀ y ∈ L, y.Ok) ∧ (L = [] ∨ ∃ es rest, d = .slice es rest ∧ es.length = L.length) := by
  obtain ⟨a1, len1, cap1, rfl⟩ := okWide_slice Tryd.underlying22 hval
  obtain ⟨fuel, hf⟩ := h
  rcases open_slice Tryd.underlying22 hf with ⟨hcs, hx⟩ | ⟨a, len, cap, m, n, D, Pl, hcs, hb, hl, hm, hmm, hx, hel⟩
  · simp [Value.cells] at hcs
    obtain ⟨rfl, rfl, rfl⟩ := hcs
    refine ⟨[], ⟨none, 0, rfl, fun i hi => absurd hi (by simp)⟩, ?_, Or.inl rfl⟩
    intro y hy
    cases hy
  · simp [Value.cells] at hcs
    obtain ⟨rfl, rfl, rfl⟩ := hcs
    simp only [Prod.mk.injEq] at hx
    obtain ⟨rfl, -⟩ := hx
    have hlm : len1 ≤ m := by rw [hmm]; split <;> omega
    have each : ∀ i, i < len1 → ∃ q : Cl, W.cell? (a.add (i * 6)) = some (.int .i64 q.kind) ∧ W.cell? (a.add (i * 6 + 1)) = some (.int .i64 q.on) ∧ W.cell? (a.add (i * 6 + 2)) = some (.int .i64 q.p) ∧
        W.cell? (a.add (i * 6 + 3)) = some (.int .i64 q.k) ∧ W.cell? (a.add (i * 6 + 4)) = some (.int .i64 q.n) ∧ W.cell? (a.add (i * 6 + 5)) = some (.string q.name) ∧ q.Ok := by
      intro i hi
      obtain ⟨cs', h1, h2⟩ := hel i (by omega)
      rw [show Tryd.prog.cellsOf 31 = 6 by kernel_rfl] at h1
      obtain ⟨_, hlen, hcell⟩ := World.cells?_some h1
      obtain ⟨y0, y1, y2, y3, y4, y5, k, _, u0, u1, u2, u3, u4, u5⟩ := trod_struct6 Tryd.underlying31 h2
      match cs', hlen with
      | [v0, v1, v2, v3, v4, v5], _ =>
        simp only [show Tryd.prog.cellsOf 9 = 1 by kernel_rfl, show Tryd.prog.cellsOf 3 = 1 by kernel_rfl, List.drop, List.take] at u0 u1 u2 u3 u4 u5
        obtain ⟨n0, e0, d0, _⟩ := DataW.trod_int Tryd.underlying3 u0
        obtain ⟨n1, e1, d1, g1⟩ := DataW.trod_int Tryd.underlying3 u1
        obtain ⟨n2, e2, d2, _⟩ := DataW.trod_int Tryd.underlying3 u2
        obtain ⟨n3, e3, d3, _⟩ := DataW.trod_int Tryd.underlying3 u3
        obtain ⟨n4, e4, d4, g4⟩ := DataW.trod_int Tryd.underlying3 u4
        obtain ⟨s, e5, d5, z⟩ := DataW.trod_string Tryd.underlying9 u5
        simp only [List.cons.injEq, and_true] at e0 e1 e2 e3 e4 e5
        subst e0; subst e1; subst e2; subst e3; subst e4; subst e5
        have c0 := hcell 0 (by omega)
        have c1 := hcell 1 (by omega)
        have c2 := hcell 2 (by omega)
        have c3 := hcell 3 (by omega)
        have c4 := hcell 4 (by omega)
        have c5 := hcell 5 (by omega)
        rw [add_add] at c0 c1 c2 c3 c4 c5
        exact ⟨⟨n0, n1, n2, n3, n4, s⟩, by simpa using c0, by simpa using c1, by simpa using c2, by simpa using c3, by simpa using c4, by simpa using c5, ⟨z, wf_bounds g1, wf_bounds g4⟩⟩
    obtain ⟨q, hq⟩ := choose_lt each
    refine ⟨(List.range len1).map q, ⟨some a, cap1, by simp, fun i hi => ?_⟩, fun y hy => ?_, Or.inr ⟨_, _, rfl, by simp⟩⟩
    · simp at hi
      obtain ⟨c0, c1, c2, c3, c4, c5, _⟩ := hq i hi
      obtain ⟨xb, xo, spot⟩ := a
      have hspot : spot = none := by simpa [Addr.add] using World.cell?_spot (hq 0 (by omega)).1
      subst hspot
      rw [Addr.add_lit] at c0 c1 c2 c3 c4 c5
      exact ⟨xb, xo, rfl, by simpa using c0, by simpa [Nat.add_assoc] using c1, by simpa [Nat.add_assoc] using c2, by simpa [Nat.add_assoc] using c3, by simpa [Nat.add_assoc] using c4, by simpa [Nat.add_assoc] using c5⟩
    · simp at hy
      obtain ⟨i, hi, rfl⟩ := hy
      exact (hq i hi).2.2.2.2.2.2

set_option maxRecDepth 100000 in
/-- What a script weighs. -/
theorem calls_reach {ts : List TypeId} {ds : List (DataW H)} (hsz : (DataW.weightsEach Tryd.prog ts ds).all (· ≤ reachBytes) = true) {j : Nat} {d : DataW H} {L : List Cl} (ht : ts[j]? = some 22) (hd : ds[j]? = some d) (h : L = [] ∨ ∃ es rest, d = .slice es rest ∧ es.length = L.length) :
    L.length * 56 ≤ 140737488351232 := by
  rcases h with rfl | ⟨es, rest, rfl, he⟩
  · simp
  · have := sized_slice hsz ht hd Tryd.underlying22
    rw [show Tryd.prog.bytesOf 31 = 56 by kernel_rfl] at this
    simp only [reachBytes] at this
    omega
end
end Go.Proofs.YtnbhmgonijlplaaDoor
