/- Walks: lowDigitsFirst. Walks: slices.Reverse at []byte. Walks: Text where nothing is wrong. -/
import Derived.Test.YtiaddfedaikaiaaGreatDoorBigW13m
import Derived.Test.YtiaddfedaikaiaaGreatDoorBigW26m
import Derived.Laws.BytesArg
import Derived.Deep.AppendLies
import Derived.Test.YtiaddfedaikaiaaGreatDoorBigW28m
namespace Go.Proofs.YtiaddfedaikaiaaGreatDoor
open Go.RowKit Lm

/-- The digits of a number, the lowest first; f is how many there may be. -/
def lowD (r : Nat) : Nat → Nat → List Nat
  | 0, _ => []
  | f + 1, v => if v = 0 then [] else v % r :: lowD r f (v / r)
/-- A digit's letter. -/
def dch (d : Nat) : Nat := if d < 10 then 48 + d else 87 + d
def chs (E : List Nat) : List Value := E.map fun d : Nat => Value.int .u8 (dch d : Int)

/-- A slice of letters of the call's own that may grow. -/
def GrowB (B : Nat) (w : World) (v : Value) (E : List Nat) : Prop := w.ownsRow B 5 1 v E.length (chs E)

theorem GrowB.keep {B : Nat} {w w' : World} {v : Value} {E : List Nat} (h : GrowB B w v E) (hb : Below w.heap.size w w') : GrowB B w' v E :=
  World.ownsRow.kept h (row := none) ⟨hb.os, hb.tape, hb.output, hb.size, fun k hk _ => hb.block k hk⟩ (by cases v.ownBlock <;> simp)
end Go.Proofs.YtiaddfedaikaiaaGreatDoor

namespace Go.Proofs.YtiaddfedaikaiaaGreatDoor
open Go.RowKit Lm

def bys (L : List Nat) : List Value := L.map fun x : Nat => Value.int .u8 (x : Int)
/-- A slice of bytes of the call's own that may grow. -/
def GrowC (B : Nat) (w : World) (v : Value) (L : List Nat) : Prop := w.ownsRow B 5 1 v L.length (bys L)

theorem chs_bys (E : List Nat) : chs E = bys (E.map dch) := by simp [chs, bys, List.map_map, Function.comp_def]
theorem GrowB.bytes {B : Nat} {w : World} {v : Value} {E : List Nat} (h : GrowB B w v E) : GrowC B w v (E.map dch) := by
  unfold GrowC; rw [List.length_map, ← chs_bys]; exact h
end Go.Proofs.YtiaddfedaikaiaaGreatDoor

namespace Go.Proofs.YtiaddfedaikaiaaGreatDoor
open Go.RowKit Lm

/-- What is written, byte by byte. -/
def txt (n : Bool) (r v : Nat) : List Nat := if v = 0 then [48] else (if n then [45] else []) ++ ((lowD r 4096 v).map dch).reverse
def strOf (L : List Nat) : ByteArray := ⟨(L.map UInt8.ofNat).toArray⟩
end Go.Proofs.YtiaddfedaikaiaaGreatDoor
