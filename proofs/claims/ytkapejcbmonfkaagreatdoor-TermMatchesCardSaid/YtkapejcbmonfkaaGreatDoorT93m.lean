/- Walks of the document's answer: Vars, AllVars: the variables of terms, each once. No condition but those that each theorem names. Walk: the function that Plain hands on: a variable's new number. No condition but those that each theorem names. -/
import Derived.Test.YtkapejcbmonfkaaGreatDoorT59m
namespace Go.Proofs.YtkapejcbmonfkaaGreatDoor
open Go.RowKit

/-- All but rows of ints as it was. -/
structure Kq (w w' : World) : Prop where
  size : w.heap.size ≤ w'.heap.size
  same : ∀ k, k < w.heap.size → (∀ cur, w.heap[k]? ≠ some (.cells cur 3 (0, 0))) → w'.heap[k]? = w.heap[k]?
theorem Kq.refl (w : World) : Kq w w := ⟨Nat.le_refl _, fun _ _ _ => rfl⟩
theorem Kq.trans {a b c : World} (h : Kq a b) (k : Kq b c) : Kq a c :=
  ⟨Nat.le_trans h.size k.size, fun i hi h3 => by
    have e := h.same i hi h3
    exact (k.same i (Nat.lt_of_lt_of_le hi h.size) (fun cur => by rw [e]; exact h3 cur)).trans e⟩
theorem Kq.of_below {w w' : World} (h : Below w.heap.size w w') : Kq w w' := ⟨h.size, fun k hk _ => h.block k hk⟩
theorem Kq.of_row {base n : Nat} {w w' : World} {v : Value} {xs : List Value} (hr : w.ownsRow base 3 1 v n xs) (h : w.grownBy w' v.ownBlock) : Kq w w' :=
  ⟨h.size, fun k hk h3 => h.block k hk (fun e => by
    rcases hr.2 with ⟨rfl, _⟩ | ⟨g, cap, cur, rfl, _, q2, _⟩
    · cases e
    · cases e
      exact h3 cur q2)⟩
end Go.Proofs.YtkapejcbmonfkaaGreatDoor

namespace Go.Proofs.YtkapejcbmonfkaaGreatDoor
open Go.RowKit Go.Maps

/-- What a numbering keeps. -/
structure NumSt (w : World) (bn bg bm : Nat) (S : List Int) : Prop where
  fn : w.cell? ⟨bn, 0, none⟩ = some (.func (.func 90) #[] #[.pointer (some ⟨bg, 0, none⟩)])
  gg : w.cell? ⟨bg, 0, none⟩ = some (.map (some bm))
  num : Nums w bm S
theorem NumSt.keep {w w' : World} {bn bg bm : Nat} {S : List Int} (h : NumSt w bn bg bm S) (hb : Below w.heap.size w w') : NumSt w' bn bg bm S :=
  ⟨heap_cell_keep hb h.fn, heap_cell_keep hb h.gg, h.num.keep hb⟩
end Go.Proofs.YtkapejcbmonfkaaGreatDoor
