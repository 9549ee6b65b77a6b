/- Walks: lowDigitsFirst. Walks: slices.Reverse at []byte. -/
import Derived.Test.YtkapejcbmonfkaaGreatDoorBigW13m
import Derived.Test.YtkapejcbmonfkaaGreatDoorBigW26m
namespace Go.Proofs.YtkapejcbmonfkaaGreatDoor
open Go.RowKit Lm

/-- A digit's letter. -/
def dch (d : Nat) : Nat := if d < 10 then 48 + d else 87 + d
def chs (E : List Nat) : List Value := E.map fun d : Nat => Value.int .u8 (dch d : Int)

/-- A slice of letters of the call's own that may grow. -/
def GrowB (B : Nat) (w : World) (v : Value) (E : List Nat) : Prop := w.ownsRow B 5 1 v E.length (chs E)

theorem GrowB.keep {B : Nat} {w w' : World} {v : Value} {E : List Nat} (h : GrowB B w v E) (hb : Below w.heap.size w w') : GrowB B w' v E :=
  World.ownsRow.kept h (row := none) ⟨hb.os, hb.tape, hb.output, hb.size, fun k hk _ => hb.block k hk⟩ (by cases v.ownBlock <;> simp)
end Go.Proofs.YtkapejcbmonfkaaGreatDoor

namespace Go.Proofs.YtkapejcbmonfkaaGreatDoor
open Go.RowKit Lm

def bys (L : List Nat) : List Value := L.map fun x : Nat => Value.int .u8 (x : Int)
/-- A slice of bytes of the call's own that may grow. -/
def GrowC (B : Nat) (w : World) (v : Value) (L : List Nat) : Prop := w.ownsRow B 5 1 v L.length (bys L)

theorem chs_bys (E : List Nat) : chs E = bys (E.map dch) := by simp [chs, bys, List.map_map, Function.comp_def]
theorem GrowB.bytes {B : Nat} {w : World} {v : Value} {E : List Nat} (h : GrowB B w v E) : GrowC B w v (E.map dch) := by
  unfold GrowC; rw [List.length_map, ← chs_bys]; exact h
end Go.Proofs.YtkapejcbmonfkaaGreatDoor
