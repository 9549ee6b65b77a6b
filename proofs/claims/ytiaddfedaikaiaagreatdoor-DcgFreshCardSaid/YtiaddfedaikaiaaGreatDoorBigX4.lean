/- Walk of the document's answer: Text, item by item. No condition but those that each theorem names. -/
import Derived.Test.YtiaddfedaikaiaaGreatDoorBigRefcm
import Derived.Test.YtiaddfedaikaiaaGreatDoorBigX3m
namespace Go.Proofs.YtiaddfedaikaiaaGreatDoor
open Go.RowKit Lm

/-- A slice of bytes that reads as a list. -/
structure Rby (w : World) (g : Nat) (E : List Nat) : Prop where
  cells : ∀ i, i < E.length → w.cell? ⟨g, i, none⟩ = some (.int .u8 (dg E i : Int))
theorem Rby.keep {w w' : World} {g : Nat} {E : List Nat} (h : Rby w g E) (hb : Below w.heap.size w w') : Rby w' g E :=
  ⟨fun i hi => (hb.cell (World.block_lt_of_cell? w _ (h.cells i hi))).trans (h.cells i hi)⟩
theorem GrowC.keep {B : Nat} {w w' : World} {v : Value} {E : List Nat} (h : GrowC B w v E) (hb : Below w.heap.size w w') : GrowC B w' v E :=
  World.ownsRow.kept h (row := none) ⟨hb.os, hb.tape, hb.output, hb.size, fun k hk _ => hb.block k hk⟩ (by cases v.ownBlock <;> simp)
theorem GrowC.snoc {B : Nat} {w : World} {v : Value} {L : List Nat} {z : Int} (x : Nat) (h : w.ownsRow B 5 1 v (L.length + 1) (bys L ++ [.int .u8 z])) (hz : z = (x : Int)) : GrowC B w v (L ++ [x]) := by
  subst hz
  unfold GrowC
  have e : bys (L ++ [x]) = bys L ++ [.int .u8 (x : Int)] := by simp [bys]
  rw [e, List.length_append]; exact h
end Go.Proofs.YtiaddfedaikaiaaGreatDoor
