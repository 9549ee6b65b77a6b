/- How limbs lie in memory: a slice of uint32 that reads as a list of limbs. Plain facts on worlds; no condition but those that each theorem names. -/
import Derived.Test.YtkapejcbmonfkaaGreatDoorChecked
import Derived.WalkKit
import Derived.WalkSpells
import Derived.Deep.QuietTactic
import Derived.BigQuiet
import Derived.Laws.CopyOwn
import Derived.Test.YtkapejcbmonfkaaGreatDoorBigLimbs
namespace Go.Proofs.YtkapejcbmonfkaaGreatDoor
open Go.RowKit Lm

/-- Kept from the walk. -/
theorem hid {p : Prop} (h : p) : Hid p := h

/-- The slice of that address, length and capacity reads as these limbs. -/
structure Rd (w : World) (ao : Option Addr) (len cap : Nat) (A : List Nat) : Prop where
  size : A.length = len
  ok : Ok A
  room : len ≤ cap
  most : len ≤ 70368744177664
  cells : 0 < len → ∃ b off, ao = some ⟨b, off, none⟩ ∧ ∀ i, i < len → w.cell? ⟨b, off + i, none⟩ = some (.int .u32 (dg A i : Int))

theorem Rd.keep {w w' : World} {ao : Option Addr} {len cap : Nat} {A : List Nat} (h : Rd w ao len cap A) (hb : Below w.heap.size w w') : Rd w' ao len cap A :=
  ⟨h.size, h.ok, h.room, h.most, fun h0 => by
    obtain ⟨b, off, e, hc⟩ := h.cells h0
    exact ⟨b, off, e, fun i hi => (hb.cell (World.block_lt_of_cell? w _ (hc i hi))).trans (hc i hi)⟩⟩
theorem Rd.alloc {w : World} {ao : Option Addr} {len cap : Nat} {A : List Nat} (h : Rd w ao len cap A) (o : Obj) : Rd (w.alloc o) ao len cap A :=
  h.keep ((Below.refl _ _).alloc (Nat.le_refl _) _)
theorem Rd.drew {w : World} {ao : Option Addr} {len cap : Nat} {A : List Nat} (h : Rd w ao len cap A) : Rd w.drew ao len cap A := h.keep (Below.refl _ _).drew

theorem Rd.take {w : World} {ao : Option Addr} {len cap : Nat} {A : List Nat} (h : Rd w ao len cap A) {n : Nat} (hn : n ≤ len) : Rd w ao n cap (A.take n) :=
  ⟨by rw [List.length_take, h.size]; omega, h.ok.take _, by have := h.room; omega, by have := h.most; omega, fun h0 => by
    obtain ⟨b, off, e, hc⟩ := h.cells (by omega)
    exact ⟨b, off, e, fun i hi => by rw [dg_take _ _ _ hi]; exact hc i (by omega)⟩⟩
theorem Rd.tl {w : World} {ao : Option Addr} {len cap : Nat} {A : List Nat} (h : Rd w ao len cap A) : Rd w ao (tl A).length cap (tl A) := by
  have := h.take (n := (Lm.tl A).length) (by rw [← h.size]; exact tl_length_le _)
  rwa [← tl_take] at this

theorem bdrew {B : Nat} {a w : World} (h : Below B a w) (n : Nat) : Below B a (w.drewN n) := ⟨h.os, h.tape, h.output, h.size, h.block⟩
theorem Rd.drewN {w : World} {ao : Option Addr} {len cap : Nat} {A : List Nat} (h : Rd w ao len cap A) (n : Nat) : Rd (w.drewN n) ao len cap A := h.keep (bdrew (Below.refl _ _) n)

/-! ### A block of limbs, known whole -/
def u32s (L : List Nat) : Array Value := (L.map fun x : Nat => Value.int .u32 (x : Int)).toArray

theorem u32s_get (L : List Nat) (i : Nat) (h : i < L.length) : (u32s L)[i]? = some (.int .u32 (dg L i : Int)) := by
  unfold u32s dg
  rw [getD_in _ _ h]
  simp [h]
theorem u32s_set (L : List Nat) (i x : Nat) : (u32s L).setIfInBounds i (.int .u32 (x : Int)) = u32s (L.set i x) := by
  unfold u32s
  rw [List.map_set]; simp

structure Rw (w : World) (g : Nat) (L : List Nat) : Prop where
  block : w.heap[g]? = some (.cells (u32s L) 153 (0, 0))

theorem Rw.lt {w : World} {g : Nat} {L : List Nat} (h : Rw w g L) : g < w.heap.size := lt_of_block h.block
theorem Rw.cell {w : World} {g : Nat} {L : List Nat} (h : Rw w g L) (i : Nat) (hi : i < L.length) : w.cell? ⟨g, i, none⟩ = some (.int .u32 (dg L i : Int)) := by
  have e := u32s_get L i hi
  simp [World.cell?, h.block, e]
theorem Rw.set {w : World} {g : Nat} {L : List Nat} (h : Rw w g L) (i x : Nat) : Rw (w.setCell ⟨g, i, none⟩ (.int .u32 (x : Int))) g (L.set i x) :=
  ⟨by rw [heap_setCell_same w g i (u32s L) 153 _ h.block, u32s_set]⟩
theorem Rw.keep {w w' : World} {g B : Nat} {L : List Nat} (h : Rw w g L) (hb : Below B w w') (hg : g < B) : Rw w' g L := ⟨by rw [hb.block g hg]; exact h.block⟩
theorem Rw.keep' {w w' : World} {g : Nat} {L : List Nat} (h : Rw w g L) (hb : Below w.heap.size w w') : Rw w' g L := h.keep hb h.lt
theorem Rw.alloc {w : World} {g : Nat} {L : List Nat} (h : Rw w g L) (o : Obj) : Rw (w.alloc o) g L := h.keep' ((Below.refl _ _).alloc (Nat.le_refl _) _)
theorem Rw.drew {w : World} {g : Nat} {L : List Nat} (h : Rw w g L) : Rw w.drew g L := h.keep' (Below.refl _ _).drew
theorem Rw.other {w : World} {g : Nat} {L : List Nat} (h : Rw w g L) {p : Addr} (hp : g ≠ p.block) (u : Value) : Rw (w.setCell p u) g L := ⟨by rw [Below.heap_setCell _ _ _ _ hp]; exact h.block⟩
theorem Rw.new (w : World) (L : List Nat) : Rw (w.alloc (.cells (u32s L) 153)) w.heap.size L := ⟨heap_alloc_new w _⟩

theorem Rw.rd {w : World} {g : Nat} {L : List Nat} (h : Rw w g L) (ho : Ok L) (off n cap : Nat) (hn : off + n ≤ L.length) (hc : n ≤ cap) (hm : cap ≤ 70368744177664) :
    Rd w (some ⟨g, off, none⟩) n cap ((L.drop off).take n) :=
  ⟨by rw [List.length_take, List.length_drop]; omega, (ho.drop _).take _, hc, by omega, fun _ => ⟨g, off, rfl, fun i hi => by
    rw [dg_take _ _ _ hi, dg_drop]; exact h.cell _ (by omega)⟩⟩
theorem Rw.whole {w : World} {g : Nat} {L : List Nat} (h : Rw w g L) (ho : Ok L) (cap : Nat) (hc : L.length ≤ cap) (hm : cap ≤ 70368744177664) :
    Rd w (some ⟨g, 0, none⟩) L.length cap L := by
  have := h.rd ho 0 L.length cap (by omega) hc hm
  rwa [List.drop_zero, List.take_length] at this

theorem Rw.of_own {w : World} {base g n : Nat} {L : List Nat} {xs : List Value} (h : w.ownsRow base 153 1 (.slice (some ⟨g, 0, none⟩) n n) n xs) (hx : xs = L.map fun x : Nat => Value.int .u32 (x : Int)) : Rw w g L := by
  rcases h.2 with ⟨h', _⟩ | ⟨g', cap', cur, h', hb, hg, hnc, hcm, hcs, htake⟩
  · simp at h'
  · simp only [Value.slice.injEq, Option.some.injEq, Addr.mk.injEq, and_true, true_and] at h'
    obtain ⟨rfl, rfl⟩ := h'
    refine ⟨?_⟩
    rw [hg]
    have e : cur = u32s L := by
      unfold u32s
      rw [← hx, ← htake, List.take_of_length_le (by rw [Array.length_toList, hcs]; exact Nat.le_refl _)]
    rw [e]
theorem made_zeros (n m : Nat) (h : m = n) : (madeCells (Value.int .u32 0).cells m).toList = (List.replicate n 0).map fun x : Nat => Value.int .u32 (x : Int) := by
  rw [h, show (Value.int .u32 0).cells = #[Value.int .u32 0] from rfl, toList_madeCells_one]
  simp

theorem Tryz.info153 : (Tryz.prog.info? 153).map (fun i => (i.zero, i.size, i.bytes)) = some (some (.int .u32 0), 1, 4) := by kernel_rfl

/-! ### Numbers: a sign and limbs of the call's own -/
/-- The limbs lie whole in a block of their own, from block number base on; no limbs: a nil slice. -/
def Own (base : Nat) (w : World) (ao : Option Addr) (len : Nat) (L : List Nat) : Prop :=
  (L = [] ∧ ao = none ∧ len = 0) ∨ (L ≠ [] ∧ len = L.length ∧ ∃ g, base ≤ g ∧ ao = some ⟨g, 0, none⟩ ∧ Rw w g L)

/-- The number of a sign and limbs. -/
def num (n : Bool) (L : List Nat) : Int := if n then -(val L : Int) else (val L : Int)

/-- A sign and a slice of the call's own that stand for a number, normal. -/
def Num (base : Nat) (w : World) (n : Bool) (ao : Option Addr) (len : Nat) (v : Int) : Prop :=
  ∃ L, Ok L ∧ Top L ∧ Own base w ao len L ∧ (L = [] → n = false) ∧ num n L = v ∧ L.length ≤ 70368744177664

theorem Own.keep {base : Nat} {w w' : World} {ao : Option Addr} {len : Nat} {L : List Nat} (h : Own base w ao len L) (hb : Below w.heap.size w w') : Own base w' ao len L := by
  rcases h with h | ⟨h1, h2, g, h3, h4, h5⟩
  · exact .inl h
  · exact .inr ⟨h1, h2, g, h3, h4, h5.keep' hb⟩
theorem Num.keep {base : Nat} {w w' : World} {n : Bool} {ao : Option Addr} {len : Nat} {v : Int} (h : Num base w n ao len v) (hb : Below w.heap.size w w') : Num base w' n ao len v := by
  obtain ⟨L, h1, h2, h3, h4⟩ := h
  exact ⟨L, h1, h2, h3.keep hb, h4⟩
theorem Num.mono {base base' : Nat} {w : World} {n : Bool} {ao : Option Addr} {len : Nat} {v : Int} (h : Num base w n ao len v) (hb : base' ≤ base) : Num base' w n ao len v := by
  obtain ⟨L, h1, h2, h3, h4⟩ := h
  refine ⟨L, h1, h2, ?_, h4⟩
  rcases h3 with h | ⟨k1, k2, g, k3, k4, k5⟩
  · exact .inl h
  · exact .inr ⟨k1, k2, g, Nat.le_trans hb k3, k4, k5⟩
theorem Num.rd {base : Nat} {w : World} {n : Bool} {ao : Option Addr} {len : Nat} {v : Int} (h : Num base w n ao len v) : ∃ L, Rd w ao len len L ∧ Top L ∧ num n L = v ∧ (L = [] → n = false) := by
  obtain ⟨L, h1, h2, h3, h4, h5, h6⟩ := h
  refine ⟨L, ?_, h2, h5, h4⟩
  rcases h3 with ⟨rfl, rfl, rfl⟩ | ⟨k1, rfl, g, k3, rfl, k5⟩
  · exact ⟨rfl, h1, Nat.le_refl _, by omega, fun h => by omega⟩
  · exact k5.whole h1 _ (Nat.le_refl _) h6
theorem num_nil (n : Bool) : num n [] = 0 := by cases n <;> rfl
theorem num_tl (n : Bool) (A : List Nat) : num n (tl A) = num n A := by unfold num; rw [tl_val]
theorem Num.zero (base : Nat) (w : World) : Num base w false none 0 0 := ⟨[], Ok.nil, fun h => absurd rfl h, .inl ⟨rfl, rfl, rfl⟩, fun _ => rfl, rfl, by simp⟩

theorem num_abs (n : Bool) (L : List Nat) : (num n L).natAbs = val L := by unfold num; cases n <;> simp

theorem blk_keep {w w1 : World} {o : Obj} (hb : Below (w.alloc o).heap.size (w.alloc o) w1) : w1.heap[w.heap.size]? = some o := by
  rw [hb.block _ (by simp)]; exact heap_alloc_new w _
theorem two_cells {w : World} {b : Nat} {x y : Value} {t : TypeId} (h : w.heap[b]? = some (.cells #[x, y] t (0, 0))) :
    w.cell? ⟨b, 0, none⟩ = some x ∧ w.cell? ⟨b, 1, none⟩ = some y ∧ w.frozen? ⟨b, 0, none⟩ = false ∧ w.frozen? ⟨b, 1, none⟩ = false :=
  ⟨by simp [World.cell?, h], by simp [World.cell?, h], by simp [World.frozen?, h], by simp [World.frozen?, h]⟩
theorem balloc {w w1 : World} {o : Obj} (hb : Below (w.alloc o).heap.size (w.alloc o) w1) : Below w.heap.size w w1 :=
  ((Below.refl _ _).alloc (Nat.le_refl _) _).trans (hb.mono (by simp))

theorem Num.set {base : Nat} {w : World} {n : Bool} {ao : Option Addr} {len : Nat} {v : Int} (h : Num base w n ao len v) {p : Addr} (hp : p.block < base) (u : Value) : Num base (w.setCell p u) n ao len v := by
  obtain ⟨L, h1, h2, h3, h4⟩ := h
  refine ⟨L, h1, h2, ?_, h4⟩
  rcases h3 with h | ⟨k1, k2, g, k3, k4, k5⟩
  · exact .inl h
  · exact .inr ⟨k1, k2, g, k3, k4, k5.other (by omega) _⟩

/-- The answer of a call that may find its number too long: the number, or nothing and the error. -/
def Fits (w w' : World) (n : Bool) (ao : Option Addr) (len : Nat) (c : Int) (v : Int) : Prop :=
  (bl v.natAbs ≤ 4096 ∧ c = 0 ∧ Num w.heap.size w' n ao len v) ∨ (4096 < bl v.natAbs ∧ c = 10 ∧ n = false ∧ ao = none ∧ len = 0)

end Go.Proofs.YtkapejcbmonfkaaGreatDoor
