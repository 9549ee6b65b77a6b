/- Walks: few, same. Boxes that hold numbers; the operations where nothing is too long; same. The law BigintRings, region by region. What is written of a number is read as it again: plain. For the law BigintReads: Text and Parse by a number's value alone; appends in regions that draw their order. The law BigintReads, region by region. -/
import Derived.Deep.RegionHeld3
import Derived.Deep.AppendSrc
import Derived.Deep.Upon
import Derived.Test.YtiaddfedaikaiaaGreatDoorBigW31m
import Derived.Test.YtiaddfedaikaiaaGreatDoorBigW26m
namespace Go.Proofs.YtiaddfedaikaiaaGreatDoor
open Go.RowKit Lm

theorem grown_put (w : World) (p : Addr) (u : Value) : w.grownBy (w.setCell p u) (some p.block) :=
  ⟨rfl, rfl, rfl, by simp, fun k _ hk => heap_setCell_other w p k u (fun e => hk (by simp [e]))⟩
theorem Grow.set {B : Nat} {w : World} {v : Value} {L : List Nat} (h : Grow B w v L) {p : Addr} (hp : v.ownBlock ≠ some p.block) (u : Value) : Grow B (w.setCell p u) v L :=
  World.ownsRow.kept h (grown_put w p u) (.inr hp)

end Go.Proofs.YtiaddfedaikaiaaGreatDoor

namespace Go.Proofs.YtiaddfedaikaiaaGreatDoor
open Go.RowKit Lm

/-- A variable's block that holds a number. -/
def Bx (w : World) (g : Nat) (v : Int) : Prop := ∃ n ao len cap A, w.heap[g]? = some (.cells #[.bool n, .slice ao len cap] 196 (0, 0)) ∧ Rd w ao len cap A ∧ num n A = v

theorem Bx.lt {w : World} {g : Nat} {v : Int} (h : Bx w g v) : g < w.heap.size := by
  obtain ⟨n, ao, len, cap, A, h1, _⟩ := h
  exact lt_of_block h1
theorem Bx.keep {w w' : World} {g : Nat} {v : Int} (h : Bx w g v) (hb : Below w.heap.size w w') : Bx w' g v := by
  obtain ⟨n, ao, len, cap, A, h1, h2, h3⟩ := h
  exact ⟨n, ao, len, cap, A, heap_keep h1 hb, h2.keep hb, h3⟩
theorem Bx.alloc {w : World} {g : Nat} {v : Int} (h : Bx w g v) (o : Obj) : Bx (w.alloc o) g v := h.keep ((Below.refl _ _).alloc (Nat.le_refl _) _)
theorem Bx.new {w : World} {n : Bool} {ao : Option Addr} {len cap : Nat} {A : List Nat} {v : Int} (h : Rd w ao len cap A) (e : num n A = v) : Bx (w.alloc (.cells #[.bool n, .slice ao len cap] 196)) w.heap.size v :=
  ⟨n, ao, len, cap, A, heap_alloc_new w _, h.alloc _, e⟩

end Go.Proofs.YtiaddfedaikaiaaGreatDoor

namespace Go.Proofs.YtiaddfedaikaiaaGreatDoor
open Go.RowKit Lm

/-- A number of less than so many bits. -/
def Lt (k : Nat) (v : Int) : Prop := v.natAbs < 2 ^ k
theorem Lt.mono {j k : Nat} {v : Int} (h : Lt j v) (hk : j ≤ k) : Lt k v := Nat.lt_of_lt_of_le h (Nat.pow_le_pow_right (by decide) hk)
theorem Lt.add {j k : Nat} {u v : Int} (h : Lt j u) (h' : Lt k v) : Lt (max j k + 1) (u + v) := by
  have h1 := h.mono (Nat.le_max_left j k)
  have h2 := h'.mono (Nat.le_max_right j k)
  unfold Lt at *
  rw [Nat.pow_succ]; omega
end Go.Proofs.YtiaddfedaikaiaaGreatDoor

namespace Go.Proofs.YtiaddfedaikaiaaGreatDoor
open Go.RowKit Lm

theorem trim_head {c : UInt8} {l : List UInt8} (h : c ≠ 48) : Lib.trimLeftB (c :: l) 48 = c :: l := by
  unfold Lib.trimLeftB
  rw [List.dropWhile_cons, if_neg (by simpa using h)]
end Go.Proofs.YtiaddfedaikaiaaGreatDoor

namespace Go.Proofs.YtiaddfedaikaiaaGreatDoor
open Go.RowKit Lm

/-- The text of a number. -/
def tx (r : Nat) (v : Int) : ByteArray := strOf (txt (decide (v < 0)) r v.natAbs)
end Go.Proofs.YtiaddfedaikaiaaGreatDoor

namespace Go.Proofs.YtiaddfedaikaiaaGreatDoor
open Go.RowKit Lm

theorem Grow.alloc {B : Nat} {w : World} {v : Value} {L : List Nat} (h : Grow B w v L) (o : Obj) : Grow B (w.alloc o) v L := World.ownsRow.alloc h o
/-- A box whose number has so many limbs at most. -/
def BxL (m : Nat) (w : World) (g : Nat) (v : Int) : Prop := ∃ n ao len cap A, w.heap[g]? = some (.cells #[.bool n, .slice ao len cap] 196 (0, 0)) ∧ Rd w ao len cap A ∧ num n A = v ∧ len ≤ m
theorem BxL.bx {m : Nat} {w : World} {g : Nat} {v : Int} (h : BxL m w g v) : Bx w g v := by
  obtain ⟨n, ao, len, cap, A, h1, h2, h3, _⟩ := h
  exact ⟨n, ao, len, cap, A, h1, h2, h3⟩
theorem BxL.lt {m : Nat} {w : World} {g : Nat} {v : Int} (h : BxL m w g v) : g < w.heap.size := h.bx.lt
theorem BxL.keep {m : Nat} {w w' : World} {g : Nat} {v : Int} (h : BxL m w g v) (hb : Below w.heap.size w w') : BxL m w' g v := by
  obtain ⟨n, ao, len, cap, A, h1, h2, h3, h4⟩ := h
  exact ⟨n, ao, len, cap, A, heap_keep h1 hb, h2.keep hb, h3, h4⟩
theorem BxL.alloc {m : Nat} {w : World} {g : Nat} {v : Int} (h : BxL m w g v) (o : Obj) : BxL m (w.alloc o) g v := h.keep ((Below.refl _ _).alloc (Nat.le_refl _) _)
end Go.Proofs.YtiaddfedaikaiaaGreatDoor
