/- Walks: order, standard, Compare of two integers. No condition but those that each theorem names. Walks: isNum where the text is an integer, and where it has a nought ahead. No condition but those that each theorem names. -/
import Derived.Sort.Walk0
import Derived.Sort.Grow
import Derived.WalkLawsBesides
import Derived.Test.YtiaddfedaikaiaaGreatDoorT6m
import Derived.Test.YtiaddfedaikaiaaGreatDoorShelf
import Derived.Test.YtiaddfedaikaiaaGreatDoorT2m
import Derived.Test.YtiaddfedaikaiaaGreatDoorBigW28m
namespace Go.Proofs.YtiaddfedaikaiaaGreatDoor
open Go.RowKit

theorem obj_keep {w w' : World} {k : Nat} {o : Obj} (h : w.heap[k]? = some o) (hb : Below w.heap.size w w') : w'.heap[k]? = some o := (hb.block k (lt_of_block h)).trans h
/-- Two terms' cells. -/
def pobj (t u : Tm) (p q : Option Addr) (cp cq : Nat) : Obj := .cells #[.int .i64 t.kind, .string t.name, .string t.num, .int .u64 t.bits, .int .i64 t.var, .slice p t.args.length cp, .int .i64 u.kind, .string u.name, .string u.num, .int .u64 u.bits, .int .i64 u.var, .slice q u.args.length cq] 25
/-- Two terms in a row of two. -/
theorem row_two {W : World} {b : Nat} {t u : Tm} {p q : Option Addr} {cp cq : Nat} (h : W.heap[b]? = some (pobj t u p q cp cq))
    (ht : TmAt W t p) (hu : TmAt W u q) : RowT W [t, u] b 0 := by
  unfold RowT
  refine ⟨⟨p, cp, ⟨(cells_of h 0).trans rfl, (cells_of h 1).trans rfl, (cells_of h 2).trans rfl, (cells_of h 3).trans rfl, (cells_of h 4).trans rfl, (cells_of h 5).trans rfl⟩, ht⟩, ?_⟩
  unfold RowT
  refine ⟨⟨q, cq, ⟨(cells_of h 6).trans rfl, (cells_of h 7).trans rfl, (cells_of h 8).trans rfl, (cells_of h 9).trans rfl, (cells_of h 10).trans rfl, (cells_of h 11).trans rfl⟩, hu⟩, ?_⟩
  unfold RowT
  trivial
end Go.Proofs.YtiaddfedaikaiaaGreatDoor

namespace Go.Proofs.YtiaddfedaikaiaaGreatDoor
open Go.RowKit Lm

/-- Is there a nought ahead? -/
def nought (s : ByteArray) : Bool := Lib.hasPrefix (⟨(Lib.trimPrefix s.data.toList [45]).toArray⟩ : ByteArray).data.toList [48]
theorem ret_b {a b : Bool} (h : a = b) : Ending.returned (.bool a) = .returned (.bool b) := by rw [h]
end Go.Proofs.YtiaddfedaikaiaaGreatDoor
