/- Walk: the function that Plain hands on: a variable's new number. No condition but those that each theorem names. -/
import Derived.Test.YtkapejcbmonfkaaGreatDoorT90
import Derived.Test.YtkapejcbmonfkaaGreatDoorT56m
namespace Go.Proofs.YtkapejcbmonfkaaGreatDoor
open Go.RowKit Go.Maps

/-- What a numbering keeps. -/
structure NumSt (w : World) (bn bg bm : Nat) (S : List Int) : Prop where
  fn : w.cell? ⟨bn, 0, none⟩ = some (.func (.func 90) #[] #[.pointer (some ⟨bg, 0, none⟩)])
  gg : w.cell? ⟨bg, 0, none⟩ = some (.map (some bm))
  num : Nums w bm S
theorem NumSt.keep {w w' : World} {bn bg bm : Nat} {S : List Int} (h : NumSt w bn bg bm S) (hb : Below w.heap.size w w') : NumSt w' bn bg bm S :=
  ⟨heap_cell_keep hb h.fn, heap_cell_keep hb h.gg, h.num.keep hb⟩
end Go.Proofs.YtkapejcbmonfkaaGreatDoor
