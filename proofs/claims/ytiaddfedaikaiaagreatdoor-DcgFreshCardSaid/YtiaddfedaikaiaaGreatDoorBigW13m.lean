/- Walks: add, Add, Sub. Walks: product. -/
import Derived.Deep.RegionHeld3
import Derived.Test.YtiaddfedaikaiaaGreatDoorBigW8m
import Derived.Test.YtiaddfedaikaiaaGreatDoorBigW1
namespace Go.Proofs.YtiaddfedaikaiaaGreatDoor
open Go.RowKit Lm

/-- The answer of a call that refuses what is too long. -/
def Ans (bad : Bool) (w w' : World) (n : Bool) (ao : Option Addr) (len : Nat) (c : Int) (v : Int) : Prop :=
  (bad = true ∧ c = 10 ∧ n = false ∧ ao = none ∧ len = 0) ∨ (bad = false ∧ Fits w w' n ao len c v)

theorem hpS {w : World} (o : Obj) {k : Nat} {v : Obj} (h : w.heap[k]? = some v) : (w.alloc o).heap[k]? = some v := (Below.heap_alloc w o k (lt_of_block h)).trans h
theorem Fits.set2 {w w2 w3 : World} {n : Bool} {ao : Option Addr} {len : Nat} {c v : Int} (h : Fits w2 w3 n ao len c v) (hle : w.heap.size ≤ w2.heap.size) {p q : Addr} (hp : p.block < w2.heap.size) (hq : q.block < w2.heap.size) (u u' : Value) :
    Fits w ((w3.setCell p u).setCell q u') n ao len c v := by
  rcases h with ⟨h1, h2, h3⟩ | h
  · exact .inl ⟨h1, h2, ((h3.set hp u).set hq u').mono hle⟩
  · exact .inr h

theorem heap_keep {w w' : World} {k : Nat} {o : Obj} (h : w.heap[k]? = some o) (hb : Below w.heap.size w w') : w'.heap[k]? = some o := (hb.block k (lt_of_block h)).trans h

theorem Ans.set2 {bad : Bool} {w w2 w3 : World} {n : Bool} {ao : Option Addr} {len : Nat} {c v : Int} (h : Ans bad w2 w3 n ao len c v) (hle : w.heap.size ≤ w2.heap.size) {p q : Addr} (hp : p.block < w2.heap.size) (hq : q.block < w2.heap.size) (u u' : Value) :
    Ans bad w ((w3.setCell p u).setCell q u') n ao len c v := by
  rcases h with h | ⟨h, h'⟩
  · exact .inl h
  · exact .inr ⟨h, h'.set2 hle hp hq u u'⟩

theorem hp3 (w : World) (o1 o2 o3 : Obj) {w1 : World} (hb : Below (((w.alloc o1).alloc o2).alloc o3).heap.size (((w.alloc o1).alloc o2).alloc o3) w1) :
    w1.heap[w.heap.size]? = some o1 ∧ w1.heap[w.heap.size + 1]? = some o2 ∧ w1.heap[w.heap.size + 2]? = some o3 ∧ Below w.heap.size w w1 := by
  refine ⟨?_, ?_, ?_, balloc (balloc2 hb)⟩
  · rw [hb.block _ (by simp; omega)]
    exact hpS _ (hpS _ (heap_alloc_new w o1))
  · rw [hb.block _ (by simp)]
    have := heap_alloc_new (w.alloc o1) o2
    exact hpS _ (by simpa using this)
  · rw [hb.block _ (by simp)]
    have := heap_alloc_new ((w.alloc o1).alloc o2) o3
    simpa using this

end Go.Proofs.YtiaddfedaikaiaaGreatDoor

namespace Go.Proofs.YtiaddfedaikaiaaGreatDoor
open Go.RowKit Lm

theorem set_mid (N R : List Nat) (k x : Nat) (hN : N.length = k) (hk : k < R.length) : (N ++ R.drop k).set k x = (N ++ [x]) ++ R.drop (k + 1) := by
  rw [List.set_append_right _ _ (by omega), hN, Nat.sub_self, List.drop_eq_getElem_cons hk, List.set_cons_zero, List.append_assoc]
  rfl
theorem dg_mid (N R : List Nat) (k : Nat) (hN : N.length = k) : dg (N ++ R.drop k) k = dg R k := by
  rw [dg_append_right _ _ _ (by omega), hN, Nat.sub_self, dg_drop]; rfl
theorem len_mid (N R : List Nat) (k : Nat) (hN : N.length = k) (hk : k ≤ R.length) : (N ++ R.drop k).length = R.length := by
  rw [List.length_append, List.length_drop]; omega

end Go.Proofs.YtiaddfedaikaiaaGreatDoor
