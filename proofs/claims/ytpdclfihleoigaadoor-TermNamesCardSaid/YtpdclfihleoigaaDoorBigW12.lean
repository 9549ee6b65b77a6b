/- Walks: add, Add, Sub. -/
import Derived.Test.YtpdclfihleoigaaDoorBigW5
import Derived.Test.YtpdclfihleoigaaDoorBigW10
import Derived.Test.YtpdclfihleoigaaDoorBigW11
namespace Go.Proofs.YtpdclfihleoigaaDoor
open Go.RowKit Lm

/-- The answer of a call that refuses what is too long. -/
def Ans (bad : Bool) (w w' : World) (n : Bool) (ao : Option Addr) (len : Nat) (c : Int) (v : Int) : Prop :=
  (bad = true ∧ c = 10 ∧ n = false ∧ ao = none ∧ len = 0) ∨ (bad = false ∧ Fits w w' n ao len c v)

theorem len_of_bl (A : List Nat) (k : Nat) (h : bl (val A) ≤ 32 * k) : (tl A).length ≤ k := by
  have h2 := (bl_le _ _).1 h
  rw [← P_two] at h2
  by_cases h0 : tl A = []
  · rw [h0]; simp
  · have h3 := top_ge (tl_top A) h0
    rw [tl_val] at h3
    have h5 : ¬ k ≤ (tl A).length - 1 := fun h => by have := P_le h; omega
    omega
theorem small_len (A : List Nat) (h : tooLong A = false) : (tl A).length ≤ 128 :=
  len_of_bl A 128 (by unfold tooLong at h; simpa using h)

theorem hpS {w : World} (o : Obj) {k : Nat} {v : Obj} (h : w.heap[k]? = some v) : (w.alloc o).heap[k]? = some v := (Below.heap_alloc w o k (lt_of_block h)).trans h
theorem hp4 (w : World) (o1 o2 o3 o4 : Obj) {w1 : World} (hb : Below ((((w.alloc o1).alloc o2).alloc o3).alloc o4).heap.size ((((w.alloc o1).alloc o2).alloc o3).alloc o4) w1) :
    w1.heap[w.heap.size]? = some o1 ∧ w1.heap[w.heap.size + 1]? = some o2 ∧ w1.heap[w.heap.size + 2]? = some o3 ∧ Below w.heap.size w w1 := by
  refine ⟨?_, ?_, ?_, balloc (balloc (balloc2 hb))⟩
  · rw [hb.block _ (by simp; omega)]
    exact hpS _ (hpS _ (hpS _ (heap_alloc_new w o1)))
  · rw [hb.block _ (by simp)]
    have := heap_alloc_new (w.alloc o1) o2
    exact hpS _ (hpS _ (by simpa using this))
  · rw [hb.block _ (by simp)]
    have := heap_alloc_new ((w.alloc o1).alloc o2) o3
    exact hpS _ (by simpa using this)

theorem four_cells {w : World} {b : Nat} {x y z u : Value} {t : TypeId} (h : w.heap[b]? = some (.cells #[x, y, z, u] t (0, 0))) :
    w.cell? ⟨b, 0, none⟩ = some x ∧ w.cell? ⟨b, 1, none⟩ = some y ∧ w.cell? ⟨b, 2, none⟩ = some z ∧ w.cell? ⟨b, 3, none⟩ = some u :=
  ⟨by simp [World.cell?, h], by simp [World.cell?, h], by simp [World.cell?, h], by simp [World.cell?, h]⟩

theorem Fits.set2 {w w2 w3 : World} {n : Bool} {ao : Option Addr} {len : Nat} {c v : Int} (h : Fits w2 w3 n ao len c v) (hle : w.heap.size ≤ w2.heap.size) {p q : Addr} (hp : p.block < w2.heap.size) (hq : q.block < w2.heap.size) (u u' : Value) :
    Fits w ((w3.setCell p u).setCell q u') n ao len c v := by
  rcases h with ⟨h1, h2, h3⟩ | h
  · exact .inl ⟨h1, h2, ((h3.set hp u).set hq u').mono hle⟩
  · exact .inr h

theorem undrew {B : Nat} {w w' : World} (h : Below B w.drew w') : Below B w w' := ⟨h.os, h.tape, h.output, h.size, h.block⟩
theorem undrewN {B n : Nat} {w w' : World} (h : Below B (w.drewN n) w') : Below B w w' := ⟨h.os, h.tape, h.output, h.size, h.block⟩
theorem cell_keep {w w' : World} {a : Addr} {v : Value} (h : w.cell? a = some v) (hb : Below w.heap.size w w') : w'.cell? a = some v := (hb.cell (World.block_lt_of_cell? w a h)).trans h
theorem heap_keep {w w' : World} {k : Nat} {o : Obj} (h : w.heap[k]? = some o) (hb : Below w.heap.size w w') : w'.heap[k]? = some o := (hb.block k (lt_of_block h)).trans h

theorem Ans.set2 {bad : Bool} {w w2 w3 : World} {n : Bool} {ao : Option Addr} {len : Nat} {c v : Int} (h : Ans bad w2 w3 n ao len c v) (hle : w.heap.size ≤ w2.heap.size) {p q : Addr} (hp : p.block < w2.heap.size) (hq : q.block < w2.heap.size) (u u' : Value) :
    Ans bad w ((w3.setCell p u).setCell q u') n ao len c v := by
  rcases h with h | ⟨h, h'⟩
  · exact .inl h
  · exact .inr ⟨h, h'.set2 hle hp hq u u'⟩

theorem hp3 (w : World) (o1 o2 o3 : Obj) {w1 : World} (hb : Below (((w.alloc o1).alloc o2).alloc o3).heap.size (((w.alloc o1).alloc o2).alloc o3) w1) :
    w1.heap[w.heap.size]? = some o1 ∧ w1.heap[w.heap.size + 1]? = some o2 ∧ w1.heap[w.heap.size + 2]? = some o3 ∧ Below w.heap.size w w1 := by
  refine ⟨?_, ?_, ?_, balloc (balloc2 hb)⟩
  · rw [hb.block _ (by simp; omega)]
    exact hpS _ (hpS _ (heap_alloc_new w o1))
  · rw [hb.block _ (by simp)]
    have := heap_alloc_new (w.alloc o1) o2
    exact hpS _ (by simpa using this)
  · rw [hb.block _ (by simp)]
    have := heap_alloc_new ((w.alloc o1).alloc o2) o3
    simpa using this

end Go.Proofs.YtpdclfihleoigaaDoor
