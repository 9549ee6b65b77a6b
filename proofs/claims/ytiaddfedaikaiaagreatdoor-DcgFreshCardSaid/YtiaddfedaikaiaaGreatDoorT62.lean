/- Walks: slices.Backward over a row of terms, for every loop body that leaves what is not its own. No condition but those that each theorem names. -/
import Derived.Test.YtiaddfedaikaiaaGreatDoorT56m
namespace Go.Proofs.YtiaddfedaikaiaaGreatDoor
open Go.RowKit Go.Shelf

theorem Lv.cell {K : Nat} {W W' : World} (h : Lv K W W') {b o : Nat} {v : Value} (hb : b ≠ K) (hc : W.cell? ⟨b, o, none⟩ = some v) : W'.cell? ⟨b, o, none⟩ = some v := by
  cases hg : W.heap[b]? with
  | none => simp [World.cell?, hg] at hc
  | some x =>
    cases x with
    | cells cs t m =>
      have := h.same b cs t m hb hg
      exact (World.cell?_of_block (a := ⟨b, o, none⟩) (this.trans hg.symm)).trans hc
    | _ => simp [World.cell?, hg] at hc
theorem Lv.six {K : Nat} {W W' : World} (h : Lv K W W') {b o : Nat} {t : Tm} {p : Option Addr} {c : Nat} (hb : b ≠ K) (hs : Six W b o t p c) : Six W' b o t p c :=
  ⟨h.cell hb hs.c0, h.cell hb hs.c1, h.cell hb hs.c2, h.cell hb hs.c3, h.cell hb hs.c4, h.cell hb hs.c5⟩
/-- A row of terms, each of which is read as it is. -/
def RowN (W : World) (K : Nat) (pl : Option Addr) {N : Nat} (xs : Fin N → El) : Prop := ∀ i : Fin N, ∃ g o, pl = some ⟨g, o, none⟩ ∧ g ≠ K ∧ Six W g (o + i.val * 6) (xs i).1 (xs i).2.1 (xs i).2.2
theorem RowN.keep {W W' : World} {K : Nat} {pl : Option Addr} {N : Nat} {xs : Fin N → El} (h : RowN W K pl xs) (hl : Lv K W W') : RowN W' K pl xs := fun i => by
  obtain ⟨g, o, e, h1, h2⟩ := h i
  exact ⟨g, o, e, h1, hl.six h1 h2⟩
end Go.Proofs.YtiaddfedaikaiaaGreatDoor
