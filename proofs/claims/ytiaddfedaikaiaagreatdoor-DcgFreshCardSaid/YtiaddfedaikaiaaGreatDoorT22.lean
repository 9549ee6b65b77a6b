/- awake answers true, where the tables of unicode/utf8 lie as its text lays them. No condition but that. -/
import Derived.Deep.RegionHeld3
import Derived.Outline
import Derived.Test.YtiaddfedaikaiaaGreatDoorT20m
import Derived.Test.YtiaddfedaikaiaaGreatDoorT19m
import Derived.Test.YtiaddfedaikaiaaGreatDoorT17m
import Derived.Test.YtiaddfedaikaiaaGreatDoorT10m
namespace Go.Proofs.YtiaddfedaikaiaaGreatDoor
open Go.RowKit

/-- The code from its region on, and its first region. -/
def seqDrop : Nat → Code → Code
  | 0, c => c
  | n + 1, .seq _ b => seqDrop n b
  | _ + 1, c => c
theorem ob_alloc {W : World} {g : Nat} {o x : Obj} (h : W.heap[g]? = some o) : (W.alloc x).heap[g]? = some o := obj_keep h ((Below.refl _ _).alloc (Nat.le_refl _) _)
theorem ob_drew {W : World} {g : Nat} {o : Obj} (h : W.heap[g]? = some o) : W.drew.heap[g]? = some o := obj_keep h (Below.refl _ _).drew
theorem ob_new {W : World} {g : Nat} {o : Obj} (h : g = W.heap.size) : (W.alloc o).heap[g]? = some o := by rw [h]; exact World.alloc_heap_new W o
theorem bl_drew {a W : World} (h : Below a.heap.size a W) : Below a.heap.size a W.drew := h.drew
theorem bl_alloc {a W : World} {x : Obj} (h : Below a.heap.size a W) : Below a.heap.size a (W.alloc x) := h.alloc h.size _
theorem bl_call {a W W' : World} (h : Below a.heap.size a W) (hb : Below W.heap.size W W') : Below a.heap.size a W' := h.trans (hb.mono h.size)
end Go.Proofs.YtiaddfedaikaiaaGreatDoor
